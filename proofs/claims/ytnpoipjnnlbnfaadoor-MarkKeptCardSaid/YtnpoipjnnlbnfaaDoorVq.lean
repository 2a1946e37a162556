/- What the rows' listed variables give the walks, and the frame's wrap: the listed variables and the world's shape together. No conditions. -/
import Derived.Test.YtnpoipjnnlbnfaaDoorVp
import Derived.Test.YtnpoipjnnlbnfaaDoorRows
import Derived.HandedShaped
import Derived.Handed
import Derived.Lib.LaidU8
import Derived.Shelf.Vars
import Derived.ProofKit
import Derived.Lay
import Derived.LaidOnce
namespace Go
variable {H : Type} {enc : TypeId × Value → H}
/-- the wrap that hands on both what the listed variables hold and the world's shape -/
theorem returnsInHanded_both {a : Assume} {C : Checked} {os : Os} {f : FuncId} {fn : Func} {s : ChangeSpec} {conds : List PathCond} {apart fresh handsOn again : Bool} {X : World → Array Value → Prop}
    (hX : ∀ (w w' : World) (args : Array Value), w.heap = w'.heap → X w args → X w' args)
    (own : ownKnob C.prog.godebug = none) (started : os.Started) (noInit : C.prog.inits.idxOf? f = none) (hfn : C.prog.funcs[f]? = some fn)
    (witness : ∃ (w : World) (tape : Tape) (i : Input), w.os = os ∧ (w.forCall tape i).Shaped C.prog ∧ i.vars = [] ∧ Input.okWide C.prog (w.forCall tape i) .any w.heap.size f i ∧
      ((s.pre enc C.prog fn conds apart (w.forCall tape i).memory i.args ∧ X (w.forCall tape i).memory i.args) ∧ sizedMet enc C.prog fn (OpenSpec.ofChange s) apart (w.forCall tape i).memory i.args) ∧ a.holds C.prog (lone (Frame.enter C.prog f i.args .normal) [] (w.forCall tape i)))
    (contract : ∀ (W : World) (base : Nat) (args : Array Value) (ds gs : List (DataW H)) (before : List MemPlace),
      (∀ (j : Nat) t v, fn.params[j]? = some t → args[j]? = some v → Value.okWide C.prog W .any base t v) →
      DataW.Whole enc C.prog fn.params.toList s.vars apart W args.toList ds gs before →
      conds.all (PathCond.test C.prog ⟨fn.params.toList, ds, s.plain.varTypes C.prog, gs⟩) = true →
      (DataW.weightsEach C.prog (fn.params.toList ++ s.plain.varTypes C.prog) (ds ++ gs)).all (· ≤ reachBytes) = true → X W args → W.ShapedOpen C.prog →
      a.holds C.prog (lone (Frame.enter C.prog f args .normal) [] W) →
      Calls C.prog f args W fun e W' => ∃ v, e = .returned v ∧ s.post enc C.prog fn apart fresh handsOn again W args v W') :
    ReturnsInHanded a C os f .any (fun w args => (s.pre enc C.prog fn conds apart w args ∧ X w args) ∧ sizedMet enc C.prog fn (OpenSpec.ofChange s) apart w args) (s.post enc C.prog fn apart fresh handsOn again) := by
  refine returnsInHanded_of_calls own started noInit witness ?_
  intro w tape i _ hsh _ hok hpre hholds
  obtain ⟨_, _, _, fn', hfn', _, _, _, _, hval⟩ := hok
  have e : fn' = fn := Option.some.inj (hfn'.symm.trans hfn)
  subst e
  obtain ⟨⟨⟨ds, gs, before, hw, hc⟩, hx⟩, hz⟩ := hpre
  have hw' := DataW.Whole.of_heap (w' := w.forCall tape i) (by rfl) hw
  refine (contract (w.forCall tape i) w.heap.size i.args ds gs before hval hw' hc (hz.weights hw) (hX _ _ _ (by rfl) hx) hsh hholds).mono fun e W' ⟨v, he, hp⟩ => ?_
  subst he
  exact ChangeSpec.post_blind hp
end Go
namespace Go.Proofs.YtnpoipjnnlbnfaaDoor
set_option linter.unusedVariables false
open Go.RowKit Go.Lib Go.Shelf
/-- the list of listed variables: each row's own -/
def laidL : List (String × DataW Unit) := Rows.markNumbersRow.laid
theorem firstEq : Go.Pinned.utf8First = firstData := by kernel_rfl
theorem acceptEq : (Rows.laid_unicode_utf8_acceptRanges : DataW Unit) = acceptData := by kernel_rfl
theorem u8x : U8Extra Tryd.prog Tryd.ren := ⟨by kernel_rfl, by kernel_rfl, by kernel_rfl, by kernel_rfl, by kernel_rfl, by kernel_rfl, by kernel_rfl⟩
theorem len_two {α : Type} {l : List α} (h : l.length = 2) : ∃ a b, l = [a, b] := by
  match l, h with
  | [a, b], _ => exact ⟨a, b, rfl⟩
/-- a struct of two texts -/
theorem two_strs {H : Type} {enc : TypeId × Value → H} {w : World} {base : Nat} {sp : Nat → Bool} {held : Bool} {fuel : Nat} {cs : List Value} {a b : List UInt8} {p : List MemPlace}
    (h : DataW.trod enc Tryd.prog w base sp held fuel 89 cs = some (.agg [.lit (.string a), .lit (.string b)], p)) : cs = [.string ⟨a.toArray⟩, .string ⟨b.toArray⟩] := by
  obtain ⟨xs, n, rfl, hx, hl, hxl, hall⟩ := DataW.trod_struct Tryd.underlying89 h
  have c9 : Tryd.prog.cellsOf 9 = 1 := by kernel_rfl
  have c89 : Tryd.prog.cellsOf 89 = 2 := by kernel_rfl
  rw [c89] at hl
  obtain ⟨v0, v1, rfl⟩ := len_two hl
  obtain ⟨y0, y1, rfl⟩ := len_two (show xs.length = 2 from hxl)
  have h0 : DataW.trod enc Tryd.prog w base sp held n 9 (([v0, v1].drop 0).take (Tryd.prog.cellsOf 9)) = some y0 := hall 0 _ rfl
  have h1 : DataW.trod enc Tryd.prog w base sp held n 9 (([v0, v1].drop 1).take (Tryd.prog.cellsOf 9)) = some y1 := hall 1 _ rfl
  rw [c9] at h0 h1
  obtain ⟨s0, e0, f0, _⟩ := DataW.trod_string Tryd.underlying9 h0
  obtain ⟨s1, e1, f1, _⟩ := DataW.trod_string Tryd.underlying9 h1
  have hp := congrArg Prod.fst hx
  simp only [List.map_cons, List.map_nil, DataW.agg.injEq, List.cons.injEq, and_true] at hp
  rw [f0, f1] at hp
  simp only [DataW.lit.injEq, Lit.string.injEq] at hp
  obtain ⟨g0, g1⟩ := hp
  have e0' : v0 = .string s0 := by simpa using e0
  have e1' : v1 = .string s1 := by simpa using e1
  rw [e0', e1', g0, g1]
/-- the program's own table of names -/
theorem named_of {n : String} (hn : Tryd.prog.globalNamed n = some 0) {w : World} (h : VarReads Tryd.prog w n Rows.laid_casement_mark_named) : ∀ j, j < 12 → w.cell? ⟨0, j, none⟩ = some (.string ⟨(namedT.getD j []).toArray⟩) := by
  obtain ⟨g, t, cs, fuel, p, hg, hty, hvar, hd⟩ := h
  obtain rfl := Option.some.inj (hn.symm.trans hg)
  obtain rfl := Option.some.inj ((show (Tryd.prog.globals[0]?).map (·.type) = some 90 by kernel_rfl).symm.trans hty)
  have c89 : Tryd.prog.cellsOf 89 = 2 := by kernel_rfl
  have key : ∀ (i : Nat) (a b : List UInt8), i < 6 → (namedT.getD (2 * i) [] = a ∧ namedT.getD (2 * i + 1) [] = b) → (match (Rows.laid_casement_mark_named : DataW Unit) with | .agg ds => ds[i]? | _ => none) = some (.agg [.lit (.string a), .lit (.string b)]) →
      w.cell? ⟨0, 2 * i, none⟩ = some (.string ⟨a.toArray⟩) ∧ w.cell? ⟨0, 2 * i + 1, none⟩ = some (.string ⟨b.toArray⟩) := by
    intro i a b hi _ hdat
    obtain ⟨fuel', d, q, hdi, he⟩ := array_elem Tryd.underlying90 hd i hi
    have hd2 : d = .agg [.lit (.string a), .lit (.string b)] := Option.some.inj (hdi.symm.trans hdat)
    subst hd2
    rw [c89] at he
    have hcs := two_strs he
    have e0 := congrArg (·[0]?) hcs
    have e1 := congrArg (·[1]?) hcs
    simp only [List.getElem?_take, List.getElem?_drop] at e0 e1
    constructor
    · rw [World.var?_cell hg hvar (2 * i), ← Array.getElem?_toList]
      simpa [Nat.mul_comm] using e0
    · rw [World.var?_cell hg hvar (2 * i + 1), ← Array.getElem?_toList]
      simpa [Nat.mul_comm] using e1
  intro j hj
  have k0 := key 0 _ _ (by omega) ⟨rfl, rfl⟩ rfl
  have k1 := key 1 _ _ (by omega) ⟨rfl, rfl⟩ rfl
  have k2 := key 2 _ _ (by omega) ⟨rfl, rfl⟩ rfl
  have k3 := key 3 _ _ (by omega) ⟨rfl, rfl⟩ rfl
  have k4 := key 4 _ _ (by omega) ⟨rfl, rfl⟩ rfl
  have k5 := key 5 _ _ (by omega) ⟨rfl, rfl⟩ rfl
  have hj2 : j = 0 ∨ j = 1 ∨ j = 2 ∨ j = 3 ∨ j = 4 ∨ j = 5 ∨ j = 6 ∨ j = 7 ∨ j = 8 ∨ j = 9 ∨ j = 10 ∨ j = 11 := by omega
  rcases hj2 with rfl | rfl | rfl | rfl | rfl | rfl | rfl | rfl | rfl | rfl | rfl | rfl
  · exact k0.1
  · exact k0.2
  · exact k1.1
  · exact k1.2
  · exact k2.1
  · exact k2.2
  · exact k3.1
  · exact k3.2
  · exact k4.1
  · exact k4.2
  · exact k5.1
  · exact k5.2
/-- what the walks lean on holds in every world in which the rows' premises hold -/
theorem env_of {W : World} (h : laidMetH Tryd.prog laidL W) (hs : W.ShapedOpen Tryd.prog) : Env W := by
  rw [MakeChecks.laidMetH_plain _ _ _ (by kernel_rfl)] at h
  have ht : Lib.Utf8Tabs 2 3 W := by
    refine utf8Tabs_of_reads { Tryd.by230 with } u8x ?_ ?_
    · exact firstEq ▸ laidMet.reads h (.tail _ (.tail _ (.head _)))
    · exact acceptEq ▸ laidMet.reads h (.head _)
  refine ⟨?_, ht, ?_, ?_⟩
  · exact World.block_lt_of_cell? _ _ (ht.2 0 (by omega)).1
  · exact cell_of_shapedOpen_int (t := 3) (zero := #[.int .i64 0]) hs (of_decide_eq_true (by kernel_rfl)) (by kernel_rfl) rfl (by kernel_rfl) (by kernel_rfl) Tryd.underlying3
  · exact named_of (by kernel_rfl) (laidMet.reads h (.tail _ (.head _)))
end Go.Proofs.YtnpoipjnnlbnfaaDoor
