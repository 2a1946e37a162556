/- SourceClean: the law's walk. No conditions but the arguments' own. -/
import Derived.Test.YteoclmmooeibhaaLl
import Derived.Test.YteoclmmooeibhaaLm
import Derived.Test.YteoclmmooeibhaaLo
import Derived.Test.YteoclmmooeibhaaLp
namespace Go.Proofs.Yteoclmmooeibhaa.cl
set_option linter.unusedVariables false
open Go.Proofs.Yteoclmmooeibhaa Go.RowKit Go.Proofs.Fm Go.Proofs.Fb Go.Proofs.Fu
theorem clean_walk (w : World) (A : Option Addr) (n c : Nat) (xs : List Int) (ha : Row w .u8 A xs) (hn : xs.length = n) (hw : ∀ x ∈ xs, (Lit.int .u8 x).wf = true) (hb : n * Try.prog.bytesOf 5 ≤ 140737488351232) (hc : n ≤ c) (hA : A = none → c = 0)
    (s : ByteArray) (hs : s.size ≤ maxLen) (hz : s.size ≤ 140737488351232) :
    Calls Try.prog 5 #[.slice A n c, .string s] w fun e w' => e = .returned (.bool true) ∧ Below w.heap.size w w' := by
  by_cases h : n ≤ 2000
  · by_cases h' : s.size ≤ 2000
    · exact clean_ss w A n c xs ha hn hA s h h'
    · exact clean_sb w A n c xs ha hn hA s h (by omega)
  · by_cases h' : s.size ≤ 2000
    · exact clean_bs w A n c xs ha hn hA s (by omega) hc h'
    · exact clean_bb w A n c xs ha hn hA s (by omega) hc (by omega)
end Go.Proofs.Yteoclmmooeibhaa.cl
