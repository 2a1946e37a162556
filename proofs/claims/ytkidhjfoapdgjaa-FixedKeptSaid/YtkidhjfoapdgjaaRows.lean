/-
  No cell of these rows narrows 'for every input' (looked for: loops, veiled, ifaces, maps, wideKeys, modest, calm, conditions, laid).
  DERIVED. THE GIVEN ROWS OF THIS SEAT. 7 by the template 'for every input the law returns true; each argument reads behind the call as it read before'; 0 by the template 'total and deterministic' (their statements: YtkidhjfoapdgjaaTotals.lean).
  GIVEN WITH THE SEED: the statements are not yours to turn. If you find one false, say at which input.
  Laid BY PROGRAM, IN A SANDBOX (cutbox-rows.mjs): the forced cells as the released guide's own fill.sh prints them over the translation 5dbdde95ea99f282… (all of the seat's roots in one cut). By AI agents, Wed Nov 11 2026. No macro, syntax, notation, axiom, sorry.
-/
import Derived.Test.YtkidhjfoapdgjaaChecked
import GoSem.Claim
import GoSem.ClaimJoined
import GoSem.ClaimMapViews
import Derived.JoinedTies
import Derived.KernelRfl
namespace Go.Proofs.Ytkidhjfoapdgjaa
/- THE CELL 'sum', in the pinned program and in every row, IS THE sha256 OF THE DUMP (.gsa) THAT YtkidhjfoapdgjaaProg.lean LOADS. Nothing in Lean hashes anything: it is a label: what it is worth is what the hold of that sum in a sandbox is worth. -/
noncomputable def Try.pinned : Pinned := { name := "ytkidhjfoapdgjaa", sum := "5dbdde95ea99f28207c2dde74724e524d1f3c53d9695c4f3b300d6a31d45609d", checked := Try.checked }
namespace Rows
def none {H : Type} : Left H := { results := [], args := [] }

/-- 'casementlaw1.FixedNumbers': WHATEVER THE INPUT: true; the input reads as it did. -/
def fixedNumbersSpec : ChangeSpec := { name := "fixedNumbers", fn := fun _ => fun
  | [] => { results := [.lit (.bool true)], args := [] }
  | _ => none }
def fixedNumbersRow : OpenClaim := { program := "ytkidhjfoapdgjaa", sum := "5dbdde95ea99f28207c2dde74724e524d1f3c53d9695c4f3b300d6a31d45609d", func := "casement/casementlaw1.FixedNumbers", spec := "fixedNumbers", unfollowed := true, recurses := true, apart := false }
def FixedNumbersSaid : Prop := fixedNumbersRow.holds Try.pinned (OpenSpec.ofChange fixedNumbersSpec)

/-- ITS FALSE NEIGHBOUR: 'it returns false'. Refute it at one input. -/
def fixedNumbersWrong : ChangeSpec := { name := "fixedNumbers", fn := fun _ => fun
  | [] => { results := [.lit (.bool false)], args := [] }
  | _ => none }
def FixedNumbersWrongFalsely : Prop := fixedNumbersRow.holds Try.pinned (OpenSpec.ofChange fixedNumbersWrong)

/-- 'casementlaw1.FixedReckons': WHATEVER THE INPUT: true; the input reads as it did. -/
def fixedReckonsSpec : ChangeSpec := { name := "fixedReckons", fn := fun _ => fun
  | [d1, d2, d3, d4] => { results := [.lit (.bool true)], args := [d1, d2, d3, d4] }
  | _ => none }
def fixedReckonsRow : OpenClaim := { program := "ytkidhjfoapdgjaa", sum := "5dbdde95ea99f28207c2dde74724e524d1f3c53d9695c4f3b300d6a31d45609d", func := "casement/casementlaw1.FixedReckons", spec := "fixedReckons", unfollowed := true, recurses := true, apart := false }
def FixedReckonsSaid : Prop := fixedReckonsRow.holds Try.pinned (OpenSpec.ofChange fixedReckonsSpec)

/-- ITS FALSE NEIGHBOUR: 'it returns false'. Refute it at one input. -/
def fixedReckonsWrong : ChangeSpec := { name := "fixedReckons", fn := fun _ => fun
  | [d1, d2, d3, d4] => { results := [.lit (.bool false)], args := [d1, d2, d3, d4] }
  | _ => none }
def FixedReckonsWrongFalsely : Prop := fixedReckonsRow.holds Try.pinned (OpenSpec.ofChange fixedReckonsWrong)

/-- 'casementlaw1.FixedShares': WHATEVER THE INPUT: true; the input reads as it did. -/
def fixedSharesSpec : ChangeSpec := { name := "fixedShares", fn := fun _ => fun
  | [d1, d2] => { results := [.lit (.bool true)], args := [d1, d2] }
  | _ => none }
def fixedSharesRow : OpenClaim := { program := "ytkidhjfoapdgjaa", sum := "5dbdde95ea99f28207c2dde74724e524d1f3c53d9695c4f3b300d6a31d45609d", func := "casement/casementlaw1.FixedShares", spec := "fixedShares", unfollowed := true, recurses := true, apart := false }
def FixedSharesSaid : Prop := fixedSharesRow.holds Try.pinned (OpenSpec.ofChange fixedSharesSpec)

/-- ITS FALSE NEIGHBOUR: 'it returns false'. Refute it at one input. -/
def fixedSharesWrong : ChangeSpec := { name := "fixedShares", fn := fun _ => fun
  | [d1, d2] => { results := [.lit (.bool false)], args := [d1, d2] }
  | _ => none }
def FixedSharesWrongFalsely : Prop := fixedSharesRow.holds Try.pinned (OpenSpec.ofChange fixedSharesWrong)

/-- 'casementlaw1.FixedAdds': WHATEVER THE INPUT: true; the input reads as it did. -/
def fixedAddsSpec : ChangeSpec := { name := "fixedAdds", fn := fun _ => fun
  | [d1, d2, d3] => { results := [.lit (.bool true)], args := [d1, d2, d3] }
  | _ => none }
def fixedAddsRow : OpenClaim := { program := "ytkidhjfoapdgjaa", sum := "5dbdde95ea99f28207c2dde74724e524d1f3c53d9695c4f3b300d6a31d45609d", func := "casement/casementlaw1.FixedAdds", spec := "fixedAdds", unfollowed := true, recurses := true, apart := false }
def FixedAddsSaid : Prop := fixedAddsRow.holds Try.pinned (OpenSpec.ofChange fixedAddsSpec)

/-- ITS FALSE NEIGHBOUR: 'it returns false'. Refute it at one input. -/
def fixedAddsWrong : ChangeSpec := { name := "fixedAdds", fn := fun _ => fun
  | [d1, d2, d3] => { results := [.lit (.bool false)], args := [d1, d2, d3] }
  | _ => none }
def FixedAddsWrongFalsely : Prop := fixedAddsRow.holds Try.pinned (OpenSpec.ofChange fixedAddsWrong)

/-- 'casementlaw1.FixedWhole': WHATEVER THE INPUT: true; the input reads as it did. -/
def fixedWholeSpec : ChangeSpec := { name := "fixedWhole", fn := fun _ => fun
  | [d1, d2] => { results := [.lit (.bool true)], args := [d1, d2] }
  | _ => none }
def fixedWholeRow : OpenClaim := { program := "ytkidhjfoapdgjaa", sum := "5dbdde95ea99f28207c2dde74724e524d1f3c53d9695c4f3b300d6a31d45609d", func := "casement/casementlaw1.FixedWhole", spec := "fixedWhole", unfollowed := true, recurses := true, apart := false }
def FixedWholeSaid : Prop := fixedWholeRow.holds Try.pinned (OpenSpec.ofChange fixedWholeSpec)

/-- ITS FALSE NEIGHBOUR: 'it returns false'. Refute it at one input. -/
def fixedWholeWrong : ChangeSpec := { name := "fixedWhole", fn := fun _ => fun
  | [d1, d2] => { results := [.lit (.bool false)], args := [d1, d2] }
  | _ => none }
def FixedWholeWrongFalsely : Prop := fixedWholeRow.holds Try.pinned (OpenSpec.ofChange fixedWholeWrong)

/-- 'casementlaw1.FixedParts': WHATEVER THE INPUT: true; the input reads as it did. -/
def fixedPartsSpec : ChangeSpec := { name := "fixedParts", fn := fun _ => fun
  | [d1, d2, d3] => { results := [.lit (.bool true)], args := [d1, d2, d3] }
  | _ => none }
def fixedPartsRow : OpenClaim := { program := "ytkidhjfoapdgjaa", sum := "5dbdde95ea99f28207c2dde74724e524d1f3c53d9695c4f3b300d6a31d45609d", func := "casement/casementlaw1.FixedParts", spec := "fixedParts", unfollowed := true, recurses := true, apart := false }
def FixedPartsSaid : Prop := fixedPartsRow.holds Try.pinned (OpenSpec.ofChange fixedPartsSpec)

/-- ITS FALSE NEIGHBOUR: 'it returns false'. Refute it at one input. -/
def fixedPartsWrong : ChangeSpec := { name := "fixedParts", fn := fun _ => fun
  | [d1, d2, d3] => { results := [.lit (.bool false)], args := [d1, d2, d3] }
  | _ => none }
def FixedPartsWrongFalsely : Prop := fixedPartsRow.holds Try.pinned (OpenSpec.ofChange fixedPartsWrong)

/-- 'casementlaw1.FixedKept': WHATEVER THE INPUT: true; the input reads as it did. -/
def fixedKeptSpec : ChangeSpec := { name := "fixedKept", fn := fun _ => fun
  | [d1, d2] => { results := [.lit (.bool true)], args := [d1, d2] }
  | _ => none }
def fixedKeptRow : OpenClaim := { program := "ytkidhjfoapdgjaa", sum := "5dbdde95ea99f28207c2dde74724e524d1f3c53d9695c4f3b300d6a31d45609d", func := "casement/casementlaw1.FixedKept", spec := "fixedKept", unfollowed := true, recurses := true, apart := false }
def FixedKeptSaid : Prop := fixedKeptRow.holds Try.pinned (OpenSpec.ofChange fixedKeptSpec)

/-- ITS FALSE NEIGHBOUR: 'it returns false'. Refute it at one input. -/
def fixedKeptWrong : ChangeSpec := { name := "fixedKept", fn := fun _ => fun
  | [d1, d2] => { results := [.lit (.bool false)], args := [d1, d2] }
  | _ => none }
def FixedKeptWrongFalsely : Prop := fixedKeptRow.holds Try.pinned (OpenSpec.ofChange fixedKeptWrong)

/- THE SECOND FORM. 'bulk': how many values and letters a reading holds, each counted each time it is reached (what is shared counts as often as it is met; a slice's spare places count too). A statement '..UptoSaid' is the law's where the arguments, and the package variables that the reading takes, are together of bulk at most 1048576: NARROWER than '..Said'. Prove '..Said' where nothing that the law and all that it calls make is longer than what came in: it says more and counts as full. Else prove '..UptoSaid'. A law counts once. -/
mutual
def uptoBulk {H : Type} : DataW H → Nat
  | .lit (.string bytes) => bytes.length + 1
  | .lit _ => 1
  | .nil => 1
  | .ptr d => uptoBulk d + 1
  | .slice elems spare => uptoBulkAll elems + uptoBulkAll spare + 1
  | .agg parts => uptoBulkAll parts + 1
  | .iface _ d => uptoBulk d + 1
  | .map entries => uptoBulkEntries entries + 1
  | .held _ => 1
def uptoBulkAll {H : Type} : List (DataW H) → Nat
  | [] => 0
  | d :: r => uptoBulk d + uptoBulkAll r
def uptoBulkEntries {H : Type} : List (Lit × DataW H) → Nat
  | [] => 0
  | x :: r => uptoBulkEntry x + uptoBulkEntries r
def uptoBulkEntry {H : Type} : Lit × DataW H → Nat
  | (.string bytes, d) => bytes.length + uptoBulk d + 1
  | (_, d) => uptoBulk d + 1
 end
def uptoSmall : (H : Type) → List (DataW H) → Bool := fun _ ds => decide (uptoBulkAll ds ≤ 1048576)
def OpenSpec.upto (s : _root_.Go.ChangeSpec) : _root_.Go.OpenSpec := { _root_.Go.OpenSpec.ofChange s with cond := some uptoSmall }

/-- 'casementlaw1.FixedNumbers', WHERE WHAT IT READS IS OF BULK AT MOST 1048576: true; the input reads as it did. -/
def fixedNumbersUptoRow : OpenClaim := { program := "ytkidhjfoapdgjaa", sum := "5dbdde95ea99f28207c2dde74724e524d1f3c53d9695c4f3b300d6a31d45609d", func := "casement/casementlaw1.FixedNumbers", spec := "fixedNumbers", unfollowed := true, recurses := true, apart := false, narrowed := true }
def FixedNumbersUptoSaid : Prop := fixedNumbersUptoRow.holds Try.pinned (OpenSpec.upto fixedNumbersSpec)

/-- 'casementlaw1.FixedReckons', WHERE WHAT IT READS IS OF BULK AT MOST 1048576: true; the input reads as it did. -/
def fixedReckonsUptoRow : OpenClaim := { program := "ytkidhjfoapdgjaa", sum := "5dbdde95ea99f28207c2dde74724e524d1f3c53d9695c4f3b300d6a31d45609d", func := "casement/casementlaw1.FixedReckons", spec := "fixedReckons", unfollowed := true, recurses := true, apart := false, narrowed := true }
def FixedReckonsUptoSaid : Prop := fixedReckonsUptoRow.holds Try.pinned (OpenSpec.upto fixedReckonsSpec)

/-- 'casementlaw1.FixedShares', WHERE WHAT IT READS IS OF BULK AT MOST 1048576: true; the input reads as it did. -/
def fixedSharesUptoRow : OpenClaim := { program := "ytkidhjfoapdgjaa", sum := "5dbdde95ea99f28207c2dde74724e524d1f3c53d9695c4f3b300d6a31d45609d", func := "casement/casementlaw1.FixedShares", spec := "fixedShares", unfollowed := true, recurses := true, apart := false, narrowed := true }
def FixedSharesUptoSaid : Prop := fixedSharesUptoRow.holds Try.pinned (OpenSpec.upto fixedSharesSpec)

/-- 'casementlaw1.FixedAdds', WHERE WHAT IT READS IS OF BULK AT MOST 1048576: true; the input reads as it did. -/
def fixedAddsUptoRow : OpenClaim := { program := "ytkidhjfoapdgjaa", sum := "5dbdde95ea99f28207c2dde74724e524d1f3c53d9695c4f3b300d6a31d45609d", func := "casement/casementlaw1.FixedAdds", spec := "fixedAdds", unfollowed := true, recurses := true, apart := false, narrowed := true }
def FixedAddsUptoSaid : Prop := fixedAddsUptoRow.holds Try.pinned (OpenSpec.upto fixedAddsSpec)

/-- 'casementlaw1.FixedWhole', WHERE WHAT IT READS IS OF BULK AT MOST 1048576: true; the input reads as it did. -/
def fixedWholeUptoRow : OpenClaim := { program := "ytkidhjfoapdgjaa", sum := "5dbdde95ea99f28207c2dde74724e524d1f3c53d9695c4f3b300d6a31d45609d", func := "casement/casementlaw1.FixedWhole", spec := "fixedWhole", unfollowed := true, recurses := true, apart := false, narrowed := true }
def FixedWholeUptoSaid : Prop := fixedWholeUptoRow.holds Try.pinned (OpenSpec.upto fixedWholeSpec)

/-- 'casementlaw1.FixedParts', WHERE WHAT IT READS IS OF BULK AT MOST 1048576: true; the input reads as it did. -/
def fixedPartsUptoRow : OpenClaim := { program := "ytkidhjfoapdgjaa", sum := "5dbdde95ea99f28207c2dde74724e524d1f3c53d9695c4f3b300d6a31d45609d", func := "casement/casementlaw1.FixedParts", spec := "fixedParts", unfollowed := true, recurses := true, apart := false, narrowed := true }
def FixedPartsUptoSaid : Prop := fixedPartsUptoRow.holds Try.pinned (OpenSpec.upto fixedPartsSpec)

/-- 'casementlaw1.FixedKept', WHERE WHAT IT READS IS OF BULK AT MOST 1048576: true; the input reads as it did. -/
def fixedKeptUptoRow : OpenClaim := { program := "ytkidhjfoapdgjaa", sum := "5dbdde95ea99f28207c2dde74724e524d1f3c53d9695c4f3b300d6a31d45609d", func := "casement/casementlaw1.FixedKept", spec := "fixedKept", unfollowed := true, recurses := true, apart := false, narrowed := true }
def FixedKeptUptoSaid : Prop := fixedKeptUptoRow.holds Try.pinned (OpenSpec.upto fixedKeptSpec)

end Rows
end Go.Proofs.Ytkidhjfoapdgjaa
