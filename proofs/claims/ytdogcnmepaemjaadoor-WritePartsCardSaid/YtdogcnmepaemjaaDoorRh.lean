/- What a canonical tree asks of a node by itself. Conditions: texts are not endless; what the world holds of the library's tables. -/
import Derived.Test.YtdogcnmepaemjaaDoorRg
import Derived.Test.YtdogcnmepaemjaaDoorDr
import Derived.Shelf.SlicesQ.IndexFunc
namespace Go.Proofs
open Go.Shelf
def Tryd.renC : Ren where
  f := fun | 6 => 50 | 8 => 38 | n => n
  t := fun | 0 => 0 | 3 => 3 | 4 => 4 | 22 => 28 | 23 => 70 | 25 => 77 | n => n
  g := fun | n => n
theorem Tryd.byContains : SlLaysH0.n8 Tryd.prog Tryd.renC where
  mixed := by kernel_rfl
  f6 := ⟨Tryd.f50.name, by kernel_rfl, by kernel_rfl⟩
  f8 := ⟨Tryd.f38.name, by kernel_rfl, by kernel_rfl⟩
  t0 := Tryd.underlying0
  a0 := Tryd.isAgg0
  z0 := Tryd.sizeOf0
  v0 := Tryd.zeroValue0
  t3 := Tryd.underlying3
  a3 := Tryd.isAgg3
  z3 := Tryd.sizeOf3
  v3 := Tryd.zeroValue3
  t4 := Tryd.underlying4
  a4 := Tryd.isAgg4
  z4 := Tryd.sizeOf4
  v4 := Tryd.zeroValue4
  t22 := Tryd.underlying28
  a22 := Tryd.isAgg28
  z22 := Tryd.sizeOf28
  v22 := Tryd.zeroValue28
  t25 := Tryd.underlying77
  a25 := Tryd.isAgg77
  z25 := Tryd.sizeOf77
  v25 := Tryd.zeroValue77
end Go.Proofs
namespace Go.Proofs.YtdogcnmepaemjaaDoor
set_option linter.unusedVariables false
open Go.RowKit Go.Proofs.Fm Go.Proofs.Fb Go.Proofs.Fu Go.Proofs.Fr Go.Proofs.Fd Go.Proofs.Fc

/-- an attribute that would not come back -/
def badA (a : Att) : Bool := !nameL (Fk.runesI a.1) || !cleanB a.2
/-- texts that are not endless -/
def Lim (t : Str) : Prop := t.length ≤ 9223372036854775807
abbrev LAtt := {a : Att // Lim a.2}
instance : Inhabited LAtt := ⟨⟨([], []), by unfold Lim; simp⟩⟩
set_option maxHeartbeats 2000000 in
theorem bad_any (a : Att) (ha : Lim a.2) (w : World) (he : Env w) : Calls Tryd.prog 39 #[.agg #[str a.1, str a.2]] w fun e w' => e = .returned (.bool (badA a)) ∧ Below w.heap.size w w' := by
  have hb0 : Below w.heap.size w (w.alloc (.cells #[str a.1, str a.2] 70)) := (Below.refl _ w).alloc (Nat.le_refl _) _
  have hk0 := Bk.new w 70 #[str a.1, str a.2]
  unfold badA
  have HP := Lib.hid (fun w => plainName_any ⟨a.1.toArray⟩ w)

  have HC := Lib.hid (fun W (h : Below w.heap.size w W) => clean_any a.2 ha W (he.below h he.sz))
  obtain ⟨P, hP⟩ : ∃ P, nameL (Fk.runesI a.1) = P := ⟨_, rfl⟩
  obtain ⟨C, hC⟩ : ∃ C, cleanB a.2 = C := ⟨_, rfl⟩
  simp only [hP] at HP
  simp only [hC] at HC
  rw [hP, hC]
  clear hP hC he ha
  obtain ⟨a1, a2⟩ := a
  dsimp only [str] at *
  cases P
  · go_enter Tryd.func39, Tryd.ntmps39
    go_wp2_with (go_at_call 40; refine (HP.out _).mono ?_; rintro e w1 ⟨rfl, b1⟩)
    go_ret
    exact ⟨rfl, hb0.trans (b1.mono hb0.size)⟩
  · go_enter Tryd.func39, Tryd.ntmps39
    go_upto_region 1 with fail
    refine wp_gen (fun W => Below w.heap.size w W ∧ Bk W w.heap.size 70 #[.string ⟨a1.toArray⟩, .string ⟨a2.toArray⟩]) ⟨hb0, hk0⟩ ?_
    rintro W ⟨hb1, hk1⟩
    have s0 : W.cell? ⟨w.heap.size, 0, none⟩ = some (.string ⟨a1.toArray⟩) := hk1.cell 0
    have HK := Lib.hid (fun W1 (h : Below W.heap.size W W1) => (hk1.below h hk1.lt).cell 1)
    have HB := Lib.hid (fun W1 (h : Below W.heap.size W W1) => hb1.trans (h.mono hb1.size))
    clear hb0 hk0 hb1 hk1
    go_wp2_with (first
      | (go_at_call 40; refine (HP.out _).mono ?_; rintro e w1 ⟨rfl, b1⟩; have s1 : w1.cell? ⟨w.heap.size, 1, none⟩ = some (.string ⟨a2.toArray⟩) := HK.out _ b1; have HB1 := Lib.hid (HB.out _ b1); clear b1)
      | (go_at_call 36; refine (HC.out _ HB1.out).mono ?_; rintro e w2 ⟨rfl, b2⟩))
    go_ret
    exact ⟨rfl, HB1.out.trans (b2.mono HB1.out.size)⟩
theorem encA (x : LAtt) : ([str x.1.1, str x.1.2] : List Value).length = 2 := rfl
set_option maxHeartbeats 1000000 in
theorem contains_nil (A : Option Addr) (c : Nat) (w : World) : Calls Tryd.prog 38 #[.slice A 0 c, .func (.func 39) #[] #[]] w fun e w' => e = .returned (.bool false) ∧ Below w.heap.size w w' := by
  have HX : Hid (∀ w, Calls Tryd.prog 50 #[.slice A 0 c, .func (.func 39) #[] #[]] w fun e w' => e = .returned (.int .i64 (-1)) ∧ ∃ q, w.drewN q = w') := Lib.hid (fun w => by
    go_enter Tryd.func50, Tryd.ntmps50
    go_upto_region 2 with fail
    go_loopg [8] 0 (fun gk i wr => i = .int .i64 0 ∧ wr = w)
    case atStart => exact ⟨rfl, rfl⟩
    case round =>
      obtain ⟨rfl, rfl⟩ := hrel
      go_wp2
      go_ret
      exact ⟨rfl, 0, rfl⟩)
  go_enter Tryd.func38, Tryd.ntmps38
  go_wp2_with (go_at_call 50; refine (HX.out _).mono ?_; rintro e w1 ⟨rfl, q, hq⟩)
  go_ret
  exact ⟨rfl, hq ▸ below_drewN (Below.refl _ _) q⟩
theorem contains_any (A : Option Addr) (n c : Nat) (al : List Att) (hn : al.length = n) (hx : n ≤ 4398046511104) (ha : ∀ a ∈ al, Lim a.2) (w : World) (he : Env w) (hr : ARow w A al) :
    Calls Tryd.prog 38 #[.slice A n c, .func (.func 39) #[] #[]] w fun e w' => e = .returned (.bool (al.any badA)) ∧ Below w.heap.size w w' := by
  by_cases h0 : al = []
  · subst h0
    obtain rfl : n = 0 := by simpa using hn.symm
    exact contains_nil A c w
  · obtain ⟨b, off, rfl, hc⟩ := hr h0
    have hl0 : 0 < al.length := List.length_pos_iff.2 h0
    have hb : b < w.heap.size := World.block_lt_of_cell? _ _ (hc 0 hl0).1
    let zs : List LAtt := al.attach.map fun x => ⟨x.1, ha x.1 x.2⟩
    have hzl : zs.length = al.length := by simp [zs]
    have hz : ∀ j (h : j < al.length), (zs[j]'(by omega)).1 = al[j]'h := fun j h => by simp [zs]
    have hany : (zs.take n).any (fun x => badA x.1) = al.any badA := by
      rw [List.take_of_length_le (by omega)]
      simp only [zs, List.any_map, Function.comp_def]
      conv => rhs; rw [← List.attach_map_subtype_val al]
      rw [List.any_map]; rfl
    have := AnyQ.slices_ContainsFunc (α := LAtt) Tryd.byContains 2 Tryd.isAgg70 Tryd.sizeOf70 (fun x => [str x.1.1, str x.1.2]) encA (fun x => badA x.1) 39 #[] (enters_of Tryd.func39 (by kernel_rfl) rfl) b off n c zs w
      (fun W x hb => (bad_any x.1 x.2 W (he.below hb he.sz)).mono fun e w' ⟨h1, h2⟩ => ⟨h1, hb.trans (h2.mono hb.size)⟩) (by omega) (by omega) hb (fun j hj i v hv => by
        have hj2 : j < al.length := by omega
        rw [getElem!_pos zs j hj] at hv
        rw [hz j hj2] at hv
        obtain ⟨h1, h2⟩ := hc j hj2
        match i, hv with
        | 0, hv => simp at hv; subst hv; exact h1
        | 1, hv => simp at hv; subst hv; exact h2
        | i + 2, hv => simp at hv)
    rw [hany] at this
    exact this
/-- is a node by itself such as comes back? -/
def comesB (x : Nd) : Bool := if x.kind = 2 then cleanB x.text else knownB x.name && !x.attrs.any badA
def LimN (x : Nd) : Prop := Lim x.text ∧ ∀ a ∈ x.attrs, Lim a.2
def ndAgg (x : Nd) (v : Value) : Value := .agg #[.int .i64 x.kind, str x.name, str x.text, v, .int .i64 x.parent, .int .i64 x.first, .int .i64 x.last, .int .i64 x.prev, .int .i64 x.next]
set_option maxHeartbeats 4000000 in
set_option maxRecDepth 10000 in
theorem comes_any (x : Nd) (v : Value) (hx : LimN x) (w : World) (he : Env w) (hv : AVal w v x.attrs) : Calls Tryd.prog 20 #[ndAgg x v] w fun e w' => e = .returned (.bool (comesB x)) ∧ Below w.heap.size w w' := by
  obtain ⟨A, c, rfl, hr, _, hl, _⟩ := hv.ex
  obtain ⟨kd, nm, tx, al, pa, fi, la, pr, ne⟩ := x
  unfold comesB ndAgg
  dsimp only at *
  have hb0 : Below w.heap.size w (w.alloc (.cells #[.int .i64 kd, str nm, str tx, .slice A al.length c, .int .i64 pa, .int .i64 fi, .int .i64 la, .int .i64 pr, .int .i64 ne] 41)) := (Below.refl _ w).alloc (Nat.le_refl _) _
  have hk0 := Bk.new w 41 #[.int .i64 kd, str nm, str tx, .slice A al.length c, .int .i64 pa, .int .i64 fi, .int .i64 la, .int .i64 pr, .int .i64 ne]
  have HK := Lib.hid (fun w => known_name nm w)
  have HC := Lib.hid (fun W (h : Below w.heap.size w W) => clean_any tx hx.1 W (he.below h he.sz))
  have HA := Lib.hid (fun W (h : Below w.heap.size w W) => contains_any A al.length c al rfl hl hx.2 W (he.below h he.sz) (hr.below h (Nat.le_refl _)))
  obtain ⟨K, hK⟩ : ∃ K, knownB nm = K := ⟨_, rfl⟩
  obtain ⟨C, hC⟩ : ∃ C, cleanB tx = C := ⟨_, rfl⟩
  obtain ⟨B, hB⟩ : ∃ B, al.any badA = B := ⟨_, rfl⟩
  simp only [hK] at HK
  simp only [hC] at HC
  simp only [hB] at HA
  rw [hK, hC, hB]
  clear hK hC hB he hx hv hr
  dsimp only [str] at *
  by_cases h2 : kd = 2
  · rw [if_pos h2]
    have d2 : (kd == 2) = true := by rw [beq_iff_eq]; exact h2
    clear h2 HK HA
    go_enter Tryd.func20, Tryd.ntmps20
    go_upto_region 1 with fail
    refine wp_gen (fun W => Below w.heap.size w W ∧ Bk W w.heap.size 41 #[.int .i64 kd, .string ⟨nm.toArray⟩, .string ⟨tx.toArray⟩, .slice A al.length c, .int .i64 pa, .int .i64 fi, .int .i64 la, .int .i64 pr, .int .i64 ne]) ⟨hb0, hk0⟩ ?_
    rintro W ⟨hb1, hk1⟩
    have s0 : W.cell? ⟨w.heap.size, 0, none⟩ = some (.int .i64 kd) := hk1.cell 0
    have s2 : W.cell? ⟨w.heap.size, 2, none⟩ = some (.string ⟨tx.toArray⟩) := hk1.cell 2
    have HB := Lib.hid hb1
    clear hb0 hk0 hb1 hk1
    go_wp2_with (go_at_call 36; refine (HC.out _ HB.out).mono ?_; rintro e w2 ⟨rfl, b2⟩)
    go_ret
    exact ⟨rfl, HB.out.trans (b2.mono HB.out.size)⟩
  · rw [if_neg h2]
    have d2 : (kd == 2) = false := by rw [beq_eq_false_iff_ne]; exact h2
    clear h2 HC
    go_enter Tryd.func20, Tryd.ntmps20
    go_upto_region 1 with fail
    refine wp_gen (fun W => Below w.heap.size w W ∧ Bk W w.heap.size 41 #[.int .i64 kd, .string ⟨nm.toArray⟩, .string ⟨tx.toArray⟩, .slice A al.length c, .int .i64 pa, .int .i64 fi, .int .i64 la, .int .i64 pr, .int .i64 ne]) ⟨hb0, hk0⟩ ?_
    rintro W ⟨hb1, hk1⟩
    have s0 : W.cell? ⟨w.heap.size, 0, none⟩ = some (.int .i64 kd) := hk1.cell 0
    have s1 : W.cell? ⟨w.heap.size, 1, none⟩ = some (.string ⟨nm.toArray⟩) := hk1.cell 1
    have HS3 := Lib.hid (fun W1 (h : Below W.heap.size W W1) => (hk1.below h hk1.lt).cell 3)
    have HB := Lib.hid (fun W1 (h : Below W.heap.size W W1) => hb1.trans (h.mono hb1.size))
    clear hb0 hk0 hb1 hk1
    cases K
    · go_wp2_with (go_at_call 37; refine (HK.out _).mono ?_; rintro e w2 ⟨rfl, q, hq⟩; have HB2 := Lib.hid (HB.out _ (show Below W.heap.size W w2 from hq ▸ below_drewN (Below.refl _ _) q)))
      go_ret
      exact ⟨rfl, HB2.out⟩
    · go_wp2_with (first
        | (go_at_call 37; refine (HK.out _).mono ?_; rintro e w2 ⟨rfl, q, hq⟩; have b2 : Below W.heap.size W w2 := (hq ▸ below_drewN (Below.refl _ _) q); have s3 : w2.cell? ⟨w.heap.size, 3, none⟩ = some (.slice A al.length c) := HS3.out _ b2; have HB2 := Lib.hid (HB.out _ b2); clear hq b2)
        | (go_at_call 38; refine (HA.out _ HB2.out).mono ?_; rintro e w3 ⟨rfl, b3⟩))
      go_ret
      exact ⟨rfl, HB2.out.trans (b3.mono HB2.out.size)⟩
end Go.Proofs.YtdogcnmepaemjaaDoor
