/- Texts and runes as bytes: words for the walks. No conditions. -/
import Derived.Test.YtdogcnmepaemjaaDoorMr
import Derived.Test.YtdogcnmepaemjaaDoorUtf
import Derived.Laws.IdiomStrings
namespace Go.Proofs.Fm
set_option linter.unusedVariables false
open Go.RowKit Go.Proofs.Fb Go.Proofs.Fu

/-- a text's bytes as numbers -/
def numsOf (s : ByteArray) : List Int := s.data.toList.map fun b => (b.toNat : Int)
theorem numsOf_length (s : ByteArray) : (numsOf s).length = s.size := by rw [numsOf, List.length_map, Array.length_toList]; rfl
theorem bytesOf_numsOf (s : ByteArray) : bytesOf (numsOf s) = s.data.toList := by
  unfold bytesOf numsOf
  rw [List.map_map]
  conv => rhs; rw [← List.map_id s.data.toList]
  apply List.map_congr_left
  intro b _
  simp
theorem strCells_nums (s : ByteArray) : Lib.strCells s = (numsOf s).map (Value.int .u8) := by
  unfold Lib.strCells numsOf
  rw [List.map_map]; rfl
theorem dec_nums (s : ByteArray) : dec (numsOf s) = clean false (runesB s.data.toList) := by unfold dec; rw [bytesOf_numsOf]

/-- '[]byte(s)': a new block that begins with the text's bytes -/
theorem text_bytes {P : Program} (W : World) (src dst e : TypeId) (s : ByteArray) (hs : P.underlying src = some .string) (hd : P.underlying dst = some (.slice e)) (he : P.underlying e = some (.int .u8)) :
    ∃ c W', (convert src dst (.string s)).run P W = .ok (.slice (some ⟨W.heap.size, 0, none⟩) s.size c) W' ∧ Row W' .u8 (some ⟨W.heap.size, 0, none⟩) (numsOf s) ∧ Below W.heap.size W W' := by
  refine ⟨_, _, run_bytes_of_string W src dst e s hs hd he, ?_, ?_⟩
  · intro _
    refine ⟨_, 0, rfl, fun j hj => ?_⟩
    rw [numsOf_length] at hj
    have hj' : j < s.data.size := hj
    rw [Nat.zero_add]
    refine (World.cell?_alloc_mark W.drew _ e _ j).trans ?_
    rw [bytesRow_at s _ j hj']
    simp only [numsOf, List.getD_eq_getElem?_getD, List.getElem?_map, Array.getElem?_toList, Array.getElem?_eq_getElem hj', Option.map_some, Option.getD_some]
  · exact ((Below.refl W.heap.size W).drew).alloc (Nat.le_refl _) _

theorem encode_good (r : Nat) (h : r < 55296 ∨ (57343 < r ∧ r ≤ 1114111)) : (Utf8.encode (r : Int)).data.toList = Lib.encodeRune (r : Int) := by
  have hv : Utf8.valid (r : Int) = true := by simp [Utf8.valid]; omega
  unfold Lib.encodeRune
  by_cases c1 : r ≤ 127
  · rw [Lib.encodeRuneZ_one (by omega) (by omega)]
    simp only [Utf8.encode, hv, if_true, Int.toNat_natCast]
    rw [if_pos (by omega)]
    simp
  · by_cases c2 : r ≤ 2047
    · rw [Lib.encodeRuneZ_two (by omega) (by omega)]
      simp only [Utf8.encode, hv, if_true, Int.toNat_natCast]
      rw [if_neg (by omega), if_pos (by omega)]
      simp only [List.map_cons, List.map_nil]
      congr 1
    · by_cases c3 : r ≤ 65535
      · rw [Lib.encodeRuneZ_three (by omega)]
        simp only [Utf8.encode, hv, if_true, Int.toNat_natCast]
        rw [if_neg (by omega), if_neg (by omega), if_pos (by omega)]
        simp only [List.map_cons, List.map_nil]
        congr 1
      · rw [Lib.encodeRuneZ_four (by omega) (by omega)]
        simp only [Utf8.encode, hv, if_true, Int.toNat_natCast]
        rw [if_neg (by omega), if_neg (by omega), if_neg (by omega)]
        simp only [List.map_cons, List.map_nil]
        congr 1
theorem foldl_encode : ∀ (ns : List Int) (s : ByteArray), (∀ x ∈ ns, Fu.Good x) → (ns.foldl (fun r n => r ++ Utf8.encode n) s).data.toList = s.data.toList ++ encB ns
  | [], s, _ => by simp [encB]
  | x :: t, s, h => by
    rw [List.foldl_cons, foldl_encode t _ (fun y hy => h y (by simp [hy]))]
    have hx := h x (by simp)
    unfold Fu.Good at hx
    have e : (Utf8.encode x).data.toList = Lib.encodeRune x := by
      have := encode_good x.toNat (by omega)
      rwa [show ((x.toNat : Nat) : Int) = x by omega] at this
    rw [ByteArray.data_append, Array.toList_append, e]
    simp [encB]
theorem runesBytes_enc (ns : List Int) (h : ∀ x ∈ ns, Fu.Good x) : (runesBytes ns).data.toList = encB ns := by
  unfold runesBytes
  rw [foldl_encode ns _ h]
  rfl
/-- decoded again it stays -/
theorem dec_again (xs : List Int) : dec (numsOf (runesBytes (dec xs))) = dec xs := by
  rw [dec_nums, runesBytes_enc _ (dec_good xs), encB_again _ (dec_good xs)]
end Go.Proofs.Fm
