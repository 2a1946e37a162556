/-
  No cell of these rows narrows 'for every input' (looked for: loops, veiled, ifaces, maps, wideKeys, modest, calm, conditions, laid).
  DERIVED. THE GIVEN ROWS OF THIS SEAT. 4 by the template 'for every input the law returns true; each argument reads behind the call as it read before'; 0 by the template 'total and deterministic' (their statements: YtijanagnmeihoaaTotals.lean).
  GIVEN WITH THE SEED: the statements are not yours to turn. If you find one false, say at which input.
  Laid BY PROGRAM, IN A SANDBOX (cutbox-rows.mjs): the forced cells as the released guide's own fill.sh prints them over the translation 1e83a71b2d8eb7c9… (all of the seat's roots in one cut). By AI agents, Wed Nov 11 2026. No macro, syntax, notation, axiom, sorry.
-/
import Derived.Test.YtijanagnmeihoaaChecked
import GoSem.Claim
import GoSem.ClaimJoined
import GoSem.ClaimMapViews
import Derived.JoinedTies
import Derived.KernelRfl
namespace Go.Proofs.Ytijanagnmeihoaa
/- THE CELL 'sum', in the pinned program and in every row, IS THE sha256 OF THE DUMP (.gsa) THAT YtijanagnmeihoaaProg.lean LOADS. Nothing in Lean hashes anything: it is a label: what it is worth is what the hold of that sum in a sandbox is worth. -/
noncomputable def Try.pinned : Pinned := { name := "ytijanagnmeihoaa", sum := "1e83a71b2d8eb7c9f8bac599431369250c5453a4e8e2311777b0019314e08902", checked := Try.checked }
namespace Rows
def none {H : Type} : Left H := { results := [], args := [] }

/-- 'casementlaw2.RectNumbers': WHATEVER THE INPUT: true; the input reads as it did. -/
def rectNumbersSpec : ChangeSpec := { name := "rectNumbers", fn := fun _ => fun
  | [] => { results := [.lit (.bool true)], args := [] }
  | _ => none }
def rectNumbersRow : OpenClaim := { program := "ytijanagnmeihoaa", sum := "1e83a71b2d8eb7c9f8bac599431369250c5453a4e8e2311777b0019314e08902", func := "casement/casementlaw2.RectNumbers", spec := "rectNumbers", apart := false }
def RectNumbersSaid : Prop := rectNumbersRow.holds Try.pinned (OpenSpec.ofChange rectNumbersSpec)

/-- ITS FALSE NEIGHBOUR: 'it returns false'. Refute it at one input. -/
def rectNumbersWrong : ChangeSpec := { name := "rectNumbers", fn := fun _ => fun
  | [] => { results := [.lit (.bool false)], args := [] }
  | _ => none }
def RectNumbersWrongFalsely : Prop := rectNumbersRow.holds Try.pinned (OpenSpec.ofChange rectNumbersWrong)

/-- 'casementlaw2.RectPoints': WHATEVER THE INPUT: true; the input reads as it did. -/
def rectPointsSpec : ChangeSpec := { name := "rectPoints", fn := fun _ => fun
  | [d1, d2, d3, d4] => { results := [.lit (.bool true)], args := [d1, d2, d3, d4] }
  | _ => none }
def rectPointsRow : OpenClaim := { program := "ytijanagnmeihoaa", sum := "1e83a71b2d8eb7c9f8bac599431369250c5453a4e8e2311777b0019314e08902", func := "casement/casementlaw2.RectPoints", spec := "rectPoints", apart := false }
def RectPointsSaid : Prop := rectPointsRow.holds Try.pinned (OpenSpec.ofChange rectPointsSpec)

/-- ITS FALSE NEIGHBOUR: 'it returns false'. Refute it at one input. -/
def rectPointsWrong : ChangeSpec := { name := "rectPoints", fn := fun _ => fun
  | [d1, d2, d3, d4] => { results := [.lit (.bool false)], args := [d1, d2, d3, d4] }
  | _ => none }
def RectPointsWrongFalsely : Prop := rectPointsRow.holds Try.pinned (OpenSpec.ofChange rectPointsWrong)

/-- 'casementlaw2.RectMoves': WHATEVER THE INPUT: true; the input reads as it did. -/
def rectMovesSpec : ChangeSpec := { name := "rectMoves", fn := fun _ => fun
  | [d1, d2, d3, d4] => { results := [.lit (.bool true)], args := [d1, d2, d3, d4] }
  | _ => none }
def rectMovesRow : OpenClaim := { program := "ytijanagnmeihoaa", sum := "1e83a71b2d8eb7c9f8bac599431369250c5453a4e8e2311777b0019314e08902", func := "casement/casementlaw2.RectMoves", spec := "rectMoves", apart := false }
def RectMovesSaid : Prop := rectMovesRow.holds Try.pinned (OpenSpec.ofChange rectMovesSpec)

/-- ITS FALSE NEIGHBOUR: 'it returns false'. Refute it at one input. -/
def rectMovesWrong : ChangeSpec := { name := "rectMoves", fn := fun _ => fun
  | [d1, d2, d3, d4] => { results := [.lit (.bool false)], args := [d1, d2, d3, d4] }
  | _ => none }
def RectMovesWrongFalsely : Prop := rectMovesRow.holds Try.pinned (OpenSpec.ofChange rectMovesWrong)

/-- 'casementlaw2.RectRails': WHATEVER THE INPUT: true; the input reads as it did. -/
def rectRailsSpec : ChangeSpec := { name := "rectRails", fn := fun _ => fun
  | [d1, d2, d3, d4] => { results := [.lit (.bool true)], args := [d1, d2, d3, d4] }
  | _ => none }
def rectRailsRow : OpenClaim := { program := "ytijanagnmeihoaa", sum := "1e83a71b2d8eb7c9f8bac599431369250c5453a4e8e2311777b0019314e08902", func := "casement/casementlaw2.RectRails", spec := "rectRails", apart := false }
def RectRailsSaid : Prop := rectRailsRow.holds Try.pinned (OpenSpec.ofChange rectRailsSpec)

/-- ITS FALSE NEIGHBOUR: 'it returns false'. Refute it at one input. -/
def rectRailsWrong : ChangeSpec := { name := "rectRails", fn := fun _ => fun
  | [d1, d2, d3, d4] => { results := [.lit (.bool false)], args := [d1, d2, d3, d4] }
  | _ => none }
def RectRailsWrongFalsely : Prop := rectRailsRow.holds Try.pinned (OpenSpec.ofChange rectRailsWrong)

/- THE SECOND FORM. 'bulk': how many values and letters a reading holds, each counted each time it is reached (what is shared counts as often as it is met; a slice's spare places count too). A statement '..UptoSaid' is the law's where the arguments, and the package variables that the reading takes, are together of bulk at most 1048576: NARROWER than '..Said'. Prove '..Said' where nothing that the law and all that it calls make is longer than what came in: it says more and counts as full. Else prove '..UptoSaid'. A law counts once. -/
mutual
def uptoBulk {H : Type} : DataW H → Nat
  | .lit (.string bytes) => bytes.length + 1
  | .lit _ => 1
  | .nil => 1
  | .ptr d => uptoBulk d + 1
  | .slice elems spare => uptoBulkAll elems + uptoBulkAll spare + 1
  | .agg parts => uptoBulkAll parts + 1
  | .iface _ d => uptoBulk d + 1
  | .map entries => uptoBulkEntries entries + 1
  | .held _ => 1
def uptoBulkAll {H : Type} : List (DataW H) → Nat
  | [] => 0
  | d :: r => uptoBulk d + uptoBulkAll r
def uptoBulkEntries {H : Type} : List (Lit × DataW H) → Nat
  | [] => 0
  | x :: r => uptoBulkEntry x + uptoBulkEntries r
def uptoBulkEntry {H : Type} : Lit × DataW H → Nat
  | (.string bytes, d) => bytes.length + uptoBulk d + 1
  | (_, d) => uptoBulk d + 1
 end
def uptoSmall : (H : Type) → List (DataW H) → Bool := fun _ ds => decide (uptoBulkAll ds ≤ 1048576)
def OpenSpec.upto (s : _root_.Go.ChangeSpec) : _root_.Go.OpenSpec := { _root_.Go.OpenSpec.ofChange s with cond := some uptoSmall }

/-- 'casementlaw2.RectNumbers', WHERE WHAT IT READS IS OF BULK AT MOST 1048576: true; the input reads as it did. -/
def rectNumbersUptoRow : OpenClaim := { program := "ytijanagnmeihoaa", sum := "1e83a71b2d8eb7c9f8bac599431369250c5453a4e8e2311777b0019314e08902", func := "casement/casementlaw2.RectNumbers", spec := "rectNumbers", apart := false, narrowed := true }
def RectNumbersUptoSaid : Prop := rectNumbersUptoRow.holds Try.pinned (OpenSpec.upto rectNumbersSpec)

/-- 'casementlaw2.RectPoints', WHERE WHAT IT READS IS OF BULK AT MOST 1048576: true; the input reads as it did. -/
def rectPointsUptoRow : OpenClaim := { program := "ytijanagnmeihoaa", sum := "1e83a71b2d8eb7c9f8bac599431369250c5453a4e8e2311777b0019314e08902", func := "casement/casementlaw2.RectPoints", spec := "rectPoints", apart := false, narrowed := true }
def RectPointsUptoSaid : Prop := rectPointsUptoRow.holds Try.pinned (OpenSpec.upto rectPointsSpec)

/-- 'casementlaw2.RectMoves', WHERE WHAT IT READS IS OF BULK AT MOST 1048576: true; the input reads as it did. -/
def rectMovesUptoRow : OpenClaim := { program := "ytijanagnmeihoaa", sum := "1e83a71b2d8eb7c9f8bac599431369250c5453a4e8e2311777b0019314e08902", func := "casement/casementlaw2.RectMoves", spec := "rectMoves", apart := false, narrowed := true }
def RectMovesUptoSaid : Prop := rectMovesUptoRow.holds Try.pinned (OpenSpec.upto rectMovesSpec)

/-- 'casementlaw2.RectRails', WHERE WHAT IT READS IS OF BULK AT MOST 1048576: true; the input reads as it did. -/
def rectRailsUptoRow : OpenClaim := { program := "ytijanagnmeihoaa", sum := "1e83a71b2d8eb7c9f8bac599431369250c5453a4e8e2311777b0019314e08902", func := "casement/casementlaw2.RectRails", spec := "rectRails", apart := false, narrowed := true }
def RectRailsUptoSaid : Prop := rectRailsUptoRow.holds Try.pinned (OpenSpec.upto rectRailsSpec)

end Rows
end Go.Proofs.Ytijanagnmeihoaa
