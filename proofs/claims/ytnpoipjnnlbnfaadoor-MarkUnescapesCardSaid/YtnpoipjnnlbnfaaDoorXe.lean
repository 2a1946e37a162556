/- MarkUnescapes walked. No conditions but what the world holds of the variables. -/
import Derived.Test.YtnpoipjnnlbnfaaDoorXd
import Derived.Test.YtnpoipjnnlbnfaaDoorWc
namespace Go.Proofs.YtnpoipjnnlbnfaaDoor
set_option linter.unusedVariables false
open Go.RowKit Go.Proofs.Fe Go.Proofs.Fm Go.Proofs.Fb Go.Proofs.Fk Go.Proofs.Fs Go.Proofs.Fc Go.Proofs.Fu

set_option maxHeartbeats 4000000 in
set_option maxRecDepth 100000 in
theorem unescapes_walk (w : World) (he : Env w) (t : ByteArray) (_ : t.size ≤ maxLen) (hz : t.size ≤ 140737488351232) :
    Calls Tryd.prog 5 #[.string t] w fun e w' => e = .returned (.bool true) ∧ Below w.heap.size w w' := by
  have HF := Lib.hid (few_any t 2000 hz (by omega) w)
  have HE := Lib.hid (fun W (hb : Below w.heap.size w W) => he.below hb he.sz)
  have HE0 := Lib.hid he
  clear he
  go_enter Tryd.func5, Tryd.ntmps5
  go_upto_region 99 with (first
    | (go_at_call 25; refine (HF.out).mono ?_; rintro e w1 ⟨s, hs, rfl, rfl⟩; have HU : Hid (∃ x : List UInt8, Fe.unesc s.data.toList = x) := Lib.hid ⟨_, rfl⟩; obtain ⟨x, hx⟩ := HU.out; have HX := Lib.hid hx; clear HU hx)
    | (go_at_call 16; refine (unescape_any s (by omega) HE0.out).mono ?_; rintro e w2 ⟨rfl, h2⟩; rw [HX.out]; have H2 := Lib.hid h2; clear h2)
    | (go_at_call 26; refine (refUnescape_any s (by omega) w2).mono ?_; rintro e w3 ⟨rfl, h3⟩; rw [HX.out]; have H3 := Lib.hid (H2.out.trans (h3.mono H2.out.size)); clear h3)
    | (go_at_call 17; refine (known_any (HE.out _ H3.out)).mono ?_; rintro e w4 ⟨rfl, h4⟩))
  go_ret
  exact ⟨rfl, H3.out.trans (h4.mono H3.out.size)⟩
end Go.Proofs.YtnpoipjnnlbnfaaDoor
