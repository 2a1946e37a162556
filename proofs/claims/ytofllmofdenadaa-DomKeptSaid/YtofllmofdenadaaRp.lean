/- How an argument that is a part is told to a walk: its names, texts, attributes and kids as they are read. No conditions. -/
import Derived.Test.YtofllmofdenadaaRg
import Derived.Lib.SmallJoins
namespace Go.Proofs.Ytofllmofdenadaa
set_option linter.unusedVariables false
open Go.ChangeShapes Go.WideShapes Go.RowKit Go.Deep Go.Proofs.Fd Go.Proofs.Fb

theorem PCells_of {w : World} {b : Nat} : ∀ (ks : List Pt) (o : Nat), (∀ (i : Nat) (h : i < ks.length), PCell w b (o + i * 4) (ks[i]'h)) → PCells w b o ks
  | [], o, _ => PCells_nil _ _ _
  | k :: t, o, h => by
    rw [PCells_cons]
    refine ⟨by have := h 0 (by simp); rw [Nat.zero_mul, Nat.add_zero] at this; exact this, PCells_of t (o + 4) (fun i hi => ?_)⟩
    have := h (i + 1) (by simpa using hi)
    rw [show o + (i + 1) * 4 = o + 4 + i * 4 by omega] at this
    simpa using this
section
variable {H : Type} {enc : TypeId × Value → H} {w : World} {base : Nat} {spare : Nat → Bool} {held : Bool}
theorem part_cell {w : World} {b o : Nat} {p : Pt} (nm tx : Str) (al : List Att) (ks : List Pt) (hp : p = .mk nm tx al ks) {va vk : Value} (h0 : w.cell? ⟨b, o, none⟩ = some (str nm)) (h1 : w.cell? ⟨b, o + 1, none⟩ = some (str tx)) (h2 : w.cell? ⟨b, o + 2, none⟩ = some va) (ha : AVal w va al) (h3 : w.cell? ⟨b, o + 3, none⟩ = some vk) (hk : KVal w vk ks) : PCell w b o p := by
  subst hp
  exact (PCell_eq _ _ _ _).2 ⟨h0, h1, ⟨va, h2, ha⟩, vk, h3, hk⟩
/-- a slice of parts -/
theorem read_parts : ∀ (N n : Nat) (v : Value) (y : DataW H × List MemPlace), SizeOf.sizeOf y.1 ≤ N → DataW.trod enc Try.prog w base spare held n 29 [v] = some y → Sz Try.prog 29 y.1 → ∃ ks, KVal w v ks
  | 0, n, v, y, hN, h, hs => by
    rcases hy : y.1 with _ | _ | _ | _ | _ | _ | _ | _ <;> rw [hy] at hN <;> simp at hN
  | N + 1, n, v, y, hN, h, hs => by
    rcases open_slice_fields Try.underlying29 Try.underlying31 (by kernel_rfl) (by kernel_rfl) h with ⟨h1, -⟩ | ⟨a, len, cap, m, D, Pl, hcs, hb, hl, hc, hm, hx, hf⟩
    · injection h1 with h1; subst h1
      exact ⟨[], none, 0, rfl, by simp, by omega, fun _ => rfl, .inl rfl⟩
    · injection hcs with hcs _; subst hcs
      have hlm : len ≤ m := by rw [hm]; split <;> omega
      subst hx
      have hfc : ∀ i, i < len → ∃ x : Pt, ∀ b off, a = ⟨b, off, none⟩ → PCell w b (off + i * 4) x := by
        intro i hi
        obtain ⟨ys, n', hD, -, hyl, hfi⟩ := hf i (by omega)
        obtain ⟨v0, y0, c0, -, t0⟩ := hfi 0 _ rfl
        obtain ⟨v1, y1, c1, -, t1⟩ := hfi 1 _ rfl
        obtain ⟨v2, y2, c2, e2, t2⟩ := hfi 2 _ rfl
        obtain ⟨v3, y3, c3, e3, t3⟩ := hfi 3 _ rfl
        obtain ⟨s0, q0, -, -⟩ := DataW.trod_string Try.underlying9 t0
        obtain ⟨s1, q1, -, -⟩ := DataW.trod_string Try.underlying9 t1
        injection q0 with q0; injection q1 with q1
        subst q0; subst q1
        have hmem : D i ∈ (List.range len).map D := List.mem_map.2 ⟨i, List.mem_range.2 hi, rfl⟩
        have hsi : Sz Try.prog 31 (D i) := Sz.elem Try.underlying29 hs hmem
        have hlt1 := List.sizeOf_lt_of_mem hmem
        rw [hD] at hsi hlt1
        have hm3 : y3.1 ∈ ys.map (·.1) := List.mem_map.2 ⟨y3, List.mem_of_getElem? e3, rfl⟩
        have hlt2 := List.sizeOf_lt_of_mem hm3
        have hs2 : Sz Try.prog 28 y2.1 := Sz.field Try.underlying31 hsi (j := 2) rfl (by rw [List.getElem?_map, e2]; rfl)
        have hs3 : Sz Try.prog 29 y3.1 := Sz.field Try.underlying31 hsi (j := 3) rfl (by rw [List.getElem?_map, e3]; rfl)
        obtain ⟨al, hal⟩ := read_attrs t2 hs2
        obtain ⟨ks, hks⟩ := read_parts N n' v3 y3 (by simp at hN hlt1 hlt2 ⊢; omega) t3 hs3
        refine ⟨.mk s0.data.toList s1.data.toList al ks, fun b off ha => ?_⟩
        subst ha
        rw [cell_get] at c0 c1 c2 c3
        have g : ∀ j, off + (i * 4 + j) = off + i * 4 + j := fun j => by omega
        exact part_cell _ _ _ _ rfl (by rw [← str_of]; exact (g 0) ▸ c0) (by rw [← g, ← str_of]; exact c1) (by rw [← g]; exact c2) hal (by rw [← g]; exact c3) hks
      have hcap : cap ≤ 9223372036854775807 := by unfold maxLen at hc; omega
      rcases Nat.eq_zero_or_pos len with h0 | h0
      · subst h0
        exact ⟨[], _, cap, rfl, by simp, hcap, (fun e => by cases e), .inl rfl⟩
      · obtain ⟨b, off, rfl⟩ : ∃ b off, a = ⟨b, off, none⟩ := by
          obtain ⟨ys, n', -, -, -, hfi⟩ := hf 0 (by omega)
          obtain ⟨v0, y0, c0, -, -⟩ := hfi 0 _ rfl
          obtain ⟨b, off, spot⟩ := a
          have hspot : spot = none := by simpa [Addr.add] using World.cell?_spot c0
          subst hspot
          exact ⟨b, off, rfl⟩
        let F : Nat → Pt := fun i => if h : i < len then Classical.choose (hfc i h) else .mk [] [] [] []
        refine ⟨(List.range len).map F, some ⟨b, off, none⟩, cap, by simp, by simpa using hl, hcap, fun e => (by cases e), .inr ⟨b, off, rfl, PCells_of _ _ (fun i hi => ?_)⟩⟩
        have hi' : i < len := by simpa using hi
        have := Classical.choose_spec (hfc i hi') b off rfl
        have e : F i = Classical.choose (hfc i hi') := dif_pos hi'
        simpa [e] using this
/-- a part -/
theorem read_part {r : Reach} {b0 : Nat} {v : Value} {d : DataW H} {p : List MemPlace} (hv : Value.okWide Try.prog w r b0 31 v) (h : DataW.Trod enc Try.prog w base spare held 31 v d p) (hs : Sz Try.prog 31 d) :
    ∃ (pt : Pt) (nm tx : Str) (al : List Att) (ks : List Pt) (A K : Option Addr) (c k : Nat), v = .agg #[str nm, str tx, .slice A al.length c, .slice K ks.length k] ∧ pt = .mk nm tx al ks ∧ AVal w (.slice A al.length c) al ∧ KVal w (.slice K ks.length k) ks := by
  obtain ⟨v0, v1, v2, v3, y0, y1, y2, y3, n, rfl, rfl, rfl, t0, t1, t2, t3⟩ := Joins.open_agg4 Try.underlying31 (by kernel_rfl) (by kernel_rfl) hv h
  obtain ⟨s0, q0, -, -⟩ := DataW.trod_string Try.underlying9 t0
  obtain ⟨s1, q1, -, -⟩ := DataW.trod_string Try.underlying9 t1
  injection q0 with q0; injection q1 with q1
  subst q0; subst q1
  obtain ⟨al, hal⟩ := read_attrs t2 (Sz.field Try.underlying31 hs (j := 2) rfl rfl)
  obtain ⟨ks, hks⟩ := read_parts _ n v3 y3 (Nat.le_refl _) t3 (Sz.field Try.underlying31 hs (j := 3) rfl rfl)
  obtain ⟨A, c, rfl, har⟩ := hal.ex
  obtain ⟨K, k, rfl, hkr⟩ := hks
  exact ⟨_, s0.data.toList, s1.data.toList, al, ks, A, K, c, k, by rw [str_of s0, str_of s1], rfl, hal, ⟨K, k, rfl, hkr⟩⟩
end
end Go.Proofs.Ytofllmofdenadaa
