/- The library's ValidString at this seat. No conditions. -/
import Derived.Test.YtdogcnmepaemjaaDoorRb
import Derived.Shelf.Unicode.ValidAny
namespace Go.Proofs.YtdogcnmepaemjaaDoor
set_option linter.unusedVariables false
open Go.RowKit
theorem validString_any (s : ByteArray) (w : World) (hs : s.size ≤ 9223372036854775807) (h : Env w) : Calls Tryd.prog 48 #[.string s] w fun e w' => e = .returned (.bool (Lib.validD s.data.toList)) ∧ Below w.heap.size w w' := Any.utf8_ValidString Tryd.by196 s w hs h.tabs
end Go.Proofs.YtdogcnmepaemjaaDoor
