/-
  DERIVED. GIVEN WITH THE SEED: THE CARDS: each row of YtnpoipjnnlbnfaaDoorRows.lean that lists a variable, with what it lists TIED to the program's text (the seventh form; the later family's looks); each row that meets fmt, with fmt's text TOLD by the authors' own Lean function (tested against real Go, not proved from fmt's source: count such statements apart). THE CARD IS WHAT COUNTS. Prove the row's statement (the work); the ties are given (YtnpoipjnnlbnfaaDoorTie.lean); close each card by the builder's one call (the guide's Derived/Test/ToyasCard.lean, 'card_holds'). Laid BY PROGRAM, IN A SANDBOX (cutbox-door.mjs). By AI agents, Wed Nov 11 2026. No macro, syntax, notation, axiom, sorry.
-/
import Derived.Test.YtnpoipjnnlbnfaaDoorRows
import GoSem.ClaimSeven
namespace Go.Proofs.YtnpoipjnnlbnfaaDoor
namespace Rows

/-- THE TIED CARD OF 'casementlaw4.MarkNumbers'. -/
def markNumbersCard : Claim7 := { stood := { row := markNumbersRow, standIns := [], harness := (true, "61f1601b6df627d5d68b95709b7ec3636c438405e44b80cf8bc4ff7d6cea4f06"), looks := false }, kinds := [], alts := [], laidByText := true, laidKinds := [.data, .data, .pinned], laidTests := true, laidLooks := .later }
def MarkNumbersCardSaid : Prop := Claim7.holds Tryd.pinned (.plain (OpenSpec.ofChange markNumbersSpec)) markNumbersCard

/-- THE TIED CARD OF 'casementlaw4.MarkTokens'. -/
def markTokensCard : Claim7 := { stood := { row := markTokensRow, standIns := [], harness := (true, "61f1601b6df627d5d68b95709b7ec3636c438405e44b80cf8bc4ff7d6cea4f06"), looks := false }, kinds := [], alts := [], laidByText := true, laidKinds := [.data, .data, .pinned], laidTests := true, laidLooks := .later }
def MarkTokensCardSaid : Prop := Claim7.holds Tryd.pinned (.plain (OpenSpec.ofChange markTokensSpec)) markTokensCard

/-- THE TIED CARD OF 'casementlaw4.MarkUnescapes'. -/
def markUnescapesCard : Claim7 := { stood := { row := markUnescapesRow, standIns := [], harness := (true, "61f1601b6df627d5d68b95709b7ec3636c438405e44b80cf8bc4ff7d6cea4f06"), looks := false }, kinds := [], alts := [], laidByText := true, laidKinds := [.data, .data, .pinned], laidTests := true, laidLooks := .later }
def MarkUnescapesCardSaid : Prop := Claim7.holds Tryd.pinned (.plain (OpenSpec.ofChange markUnescapesSpec)) markUnescapesCard

/-- THE TIED CARD OF 'casementlaw4.MarkNames'. -/
def markNamesCard : Claim7 := { stood := { row := markNamesRow, standIns := [], harness := (true, "61f1601b6df627d5d68b95709b7ec3636c438405e44b80cf8bc4ff7d6cea4f06"), looks := false }, kinds := [], alts := [], laidByText := true, laidKinds := [.data, .data, .pinned], laidTests := true, laidLooks := .later }
def MarkNamesCardSaid : Prop := Claim7.holds Tryd.pinned (.plain (OpenSpec.ofChange markNamesSpec)) markNamesCard

/-- THE TIED CARD OF 'casementlaw4.MarkPlain'. -/
def markPlainCard : Claim7 := { stood := { row := markPlainRow, standIns := [], harness := (true, "61f1601b6df627d5d68b95709b7ec3636c438405e44b80cf8bc4ff7d6cea4f06"), looks := false }, kinds := [], alts := [], laidByText := true, laidKinds := [.data, .data, .pinned], laidTests := true, laidLooks := .later }
def MarkPlainCardSaid : Prop := Claim7.holds Tryd.pinned (.plain (OpenSpec.ofChange markPlainSpec)) markPlainCard

/-- THE TIED CARD OF 'casementlaw4.MarkJoins'. -/
def markJoinsCard : Claim7 := { stood := { row := markJoinsRow, standIns := [], harness := (true, "61f1601b6df627d5d68b95709b7ec3636c438405e44b80cf8bc4ff7d6cea4f06"), looks := false }, kinds := [], alts := [], laidByText := true, laidKinds := [.data, .data, .pinned], laidTests := true, laidLooks := .later }
def MarkJoinsCardSaid : Prop := Claim7.holds Tryd.pinned (.plain (OpenSpec.ofChange markJoinsSpec)) markJoinsCard

/-- THE TIED CARD OF 'casementlaw4.MarkKept'. -/
def markKeptCard : Claim7 := { stood := { row := markKeptRow, standIns := [], harness := (true, "61f1601b6df627d5d68b95709b7ec3636c438405e44b80cf8bc4ff7d6cea4f06"), looks := false }, kinds := [], alts := [], laidByText := true, laidKinds := [.data, .data, .pinned], laidTests := true, laidLooks := .later }
def MarkKeptCardSaid : Prop := Claim7.holds Tryd.pinned (.plain (OpenSpec.ofChange markKeptSpec)) markKeptCard

/-- THE TIED CARD OF 'casementlaw4.MarkNumeric'. -/
def markNumericCard : Claim7 := { stood := { row := markNumericRow, standIns := [], harness := (true, "61f1601b6df627d5d68b95709b7ec3636c438405e44b80cf8bc4ff7d6cea4f06"), looks := false }, kinds := [], alts := [], laidByText := true, laidKinds := [.data, .data, .pinned], laidTests := true, laidLooks := .later }
def MarkNumericCardSaid : Prop := Claim7.holds Tryd.pinned (.plain (OpenSpec.ofChange markNumericSpec)) markNumericCard

/-- THE TIED CARD OF 'casementlaw4.MarkValues'. -/
def markValuesCard : Claim7 := { stood := { row := markValuesRow, standIns := [], harness := (true, "61f1601b6df627d5d68b95709b7ec3636c438405e44b80cf8bc4ff7d6cea4f06"), looks := false }, kinds := [], alts := [], laidByText := true, laidKinds := [.data, .data, .pinned], laidTests := true, laidLooks := .later }
def MarkValuesCardSaid : Prop := Claim7.holds Tryd.pinned (.plain (OpenSpec.ofChange markValuesSpec)) markValuesCard

/-- THE SECOND FORM's CARD OF 'casementlaw4.MarkNumbers'. -/
def markNumbersUptoCard : Claim7 := { stood := { row := markNumbersUptoRow, standIns := [], harness := (true, "61f1601b6df627d5d68b95709b7ec3636c438405e44b80cf8bc4ff7d6cea4f06"), looks := false }, kinds := [], alts := [], laidByText := true, laidKinds := [.data, .data, .pinned], laidTests := true, laidLooks := .later }
def MarkNumbersUptoCardSaid : Prop := Claim7.holds Tryd.pinned (.plain (OpenSpec.upto markNumbersSpec)) markNumbersUptoCard

/-- THE SECOND FORM's CARD OF 'casementlaw4.MarkTokens'. -/
def markTokensUptoCard : Claim7 := { stood := { row := markTokensUptoRow, standIns := [], harness := (true, "61f1601b6df627d5d68b95709b7ec3636c438405e44b80cf8bc4ff7d6cea4f06"), looks := false }, kinds := [], alts := [], laidByText := true, laidKinds := [.data, .data, .pinned], laidTests := true, laidLooks := .later }
def MarkTokensUptoCardSaid : Prop := Claim7.holds Tryd.pinned (.plain (OpenSpec.upto markTokensSpec)) markTokensUptoCard

/-- THE SECOND FORM's CARD OF 'casementlaw4.MarkUnescapes'. -/
def markUnescapesUptoCard : Claim7 := { stood := { row := markUnescapesUptoRow, standIns := [], harness := (true, "61f1601b6df627d5d68b95709b7ec3636c438405e44b80cf8bc4ff7d6cea4f06"), looks := false }, kinds := [], alts := [], laidByText := true, laidKinds := [.data, .data, .pinned], laidTests := true, laidLooks := .later }
def MarkUnescapesUptoCardSaid : Prop := Claim7.holds Tryd.pinned (.plain (OpenSpec.upto markUnescapesSpec)) markUnescapesUptoCard

/-- THE SECOND FORM's CARD OF 'casementlaw4.MarkNames'. -/
def markNamesUptoCard : Claim7 := { stood := { row := markNamesUptoRow, standIns := [], harness := (true, "61f1601b6df627d5d68b95709b7ec3636c438405e44b80cf8bc4ff7d6cea4f06"), looks := false }, kinds := [], alts := [], laidByText := true, laidKinds := [.data, .data, .pinned], laidTests := true, laidLooks := .later }
def MarkNamesUptoCardSaid : Prop := Claim7.holds Tryd.pinned (.plain (OpenSpec.upto markNamesSpec)) markNamesUptoCard

/-- THE SECOND FORM's CARD OF 'casementlaw4.MarkPlain'. -/
def markPlainUptoCard : Claim7 := { stood := { row := markPlainUptoRow, standIns := [], harness := (true, "61f1601b6df627d5d68b95709b7ec3636c438405e44b80cf8bc4ff7d6cea4f06"), looks := false }, kinds := [], alts := [], laidByText := true, laidKinds := [.data, .data, .pinned], laidTests := true, laidLooks := .later }
def MarkPlainUptoCardSaid : Prop := Claim7.holds Tryd.pinned (.plain (OpenSpec.upto markPlainSpec)) markPlainUptoCard

/-- THE SECOND FORM's CARD OF 'casementlaw4.MarkJoins'. -/
def markJoinsUptoCard : Claim7 := { stood := { row := markJoinsUptoRow, standIns := [], harness := (true, "61f1601b6df627d5d68b95709b7ec3636c438405e44b80cf8bc4ff7d6cea4f06"), looks := false }, kinds := [], alts := [], laidByText := true, laidKinds := [.data, .data, .pinned], laidTests := true, laidLooks := .later }
def MarkJoinsUptoCardSaid : Prop := Claim7.holds Tryd.pinned (.plain (OpenSpec.upto markJoinsSpec)) markJoinsUptoCard

/-- THE SECOND FORM's CARD OF 'casementlaw4.MarkKept'. -/
def markKeptUptoCard : Claim7 := { stood := { row := markKeptUptoRow, standIns := [], harness := (true, "61f1601b6df627d5d68b95709b7ec3636c438405e44b80cf8bc4ff7d6cea4f06"), looks := false }, kinds := [], alts := [], laidByText := true, laidKinds := [.data, .data, .pinned], laidTests := true, laidLooks := .later }
def MarkKeptUptoCardSaid : Prop := Claim7.holds Tryd.pinned (.plain (OpenSpec.upto markKeptSpec)) markKeptUptoCard

/-- THE SECOND FORM's CARD OF 'casementlaw4.MarkNumeric'. -/
def markNumericUptoCard : Claim7 := { stood := { row := markNumericUptoRow, standIns := [], harness := (true, "61f1601b6df627d5d68b95709b7ec3636c438405e44b80cf8bc4ff7d6cea4f06"), looks := false }, kinds := [], alts := [], laidByText := true, laidKinds := [.data, .data, .pinned], laidTests := true, laidLooks := .later }
def MarkNumericUptoCardSaid : Prop := Claim7.holds Tryd.pinned (.plain (OpenSpec.upto markNumericSpec)) markNumericUptoCard

/-- THE SECOND FORM's CARD OF 'casementlaw4.MarkValues'. -/
def markValuesUptoCard : Claim7 := { stood := { row := markValuesUptoRow, standIns := [], harness := (true, "61f1601b6df627d5d68b95709b7ec3636c438405e44b80cf8bc4ff7d6cea4f06"), looks := false }, kinds := [], alts := [], laidByText := true, laidKinds := [.data, .data, .pinned], laidTests := true, laidLooks := .later }
def MarkValuesUptoCardSaid : Prop := Claim7.holds Tryd.pinned (.plain (OpenSpec.upto markValuesSpec)) markValuesUptoCard
end Rows
end Go.Proofs.YtnpoipjnnlbnfaaDoor
