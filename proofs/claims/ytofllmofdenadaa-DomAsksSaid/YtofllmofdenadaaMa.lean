/- For DomAsks: kids of any number; a loop walked turn by turn; the numbers of what is below a node; where the tree is too large or not right. No conditions but that the list is not endless. -/
import Derived.Test.YtofllmofdenadaaLx
import Derived.Test.YtofllmofdenadaaRb
import Derived.Test.YtofllmofdenadaaIf
import Derived.Test.YtofllmofdenadaaIg
import Derived.Test.YtofllmofdenadaaIj
import Derived.Test.YtofllmofdenadaaBSameint
import Derived.Test.YtofllmofdenadaaDx
namespace Go.Proofs.Fc
open Go.RowKit
/-- the loop comes to its end in so many turns -/
def turns (P : Program) (c : Code) (Q : Exit → Act → World → Prop) : Nat → Act → World → Prop
  | 0, _, _ => False
  | n + 1, a, w => c.wp P (Exit.then (turns P c Q n) Q) a w
theorem turns_step {P : Program} {c : Code} {Q : Exit → Act → World → Prop} {a : Act} {w : World} {n : Nat} (h : c.wp P (Exit.then (turns P c Q n) Q) a w) : turns P c Q (n + 1) a w := h
theorem least_of {p : Nat → Prop} : ∀ n, p n → ∃ m, p m ∧ ∀ k, p k → m ≤ k := by
  intro n
  induction n using Nat.strongRecOn with
  | _ n ih =>
    intro h
    by_cases hx : ∃ k, k < n ∧ p k
    · obtain ⟨k, h1, h2⟩ := hx; exact ih k h1 h2
    · exact ⟨n, h, fun k hk => Nat.le_of_not_lt fun hlt => hx ⟨k, hlt, hk⟩⟩
theorem wp_loop_turns {P : Program} {c : Code} {Q : Exit → Act → World → Prop} {a : Act} {w : World} (n : Nat) (h : turns P c Q n a w) : (Code.loop c).wp P Q a w := by
  have key : ∀ a w, (∃ n, turns P c Q n a w) → ∃ m, turns P c Q m a w ∧ ∀ k, turns P c Q k a w → m ≤ k := fun a w ⟨n, h⟩ => least_of n h
  refine wp_loop (fun a w => ∃ n, turns P c Q n a w) (fun a w => @dite _ (∃ n, turns P c Q n a w) (Classical.propDecidable _) (fun h => Classical.choose (key a w h)) (fun _ => 0)) ⟨n, h⟩ ?_
  intro a w hI
  have hs := Classical.choose_spec (key a w hI)
  rw [dif_pos hI]
  obtain ⟨m, hm⟩ : ∃ m, Classical.choose (key a w hI) = m := ⟨_, rfl⟩
  rw [hm] at hs ⊢
  cases m with
  | zero => exact hs.1.elim
  | succ m =>
    refine wp_mono hs.1 ?_
    intro e a' w' hq
    cases e with
    | normal =>
      have hI' : ∃ n, turns P c Q n a' w' := ⟨m, hq⟩
      refine ⟨hI', ?_⟩
      rw [dif_pos hI']
      have := (Classical.choose_spec (key a' w' hI')).2 m hq
      omega
    | _ => exact hq
end Go.Proofs.Fc
namespace Go.Proofs.Ytofllmofdenadaa
set_option linter.unusedVariables false
open Go.RowKit Go.Shelf Go.Proofs.Fm Go.Proofs.Fb Go.Proofs.Fd Go.Proofs.Fc

/-- the kids of whatever number -/
def kidsI (l : List Nd) (n : Nat) (i : Int) : List Nat := if 0 ≤ i ∧ i < (n : Int) then kidsOf (par l) n i else []
theorem kidsI_any (A : Option Addr) (n c : Nat) (l : List Nd) (hl : l.length = n) (hn : n ≤ 1099511627776) (hs : SaidF l) (i : Int) (w : World) (ha : NRow w A l) : Calls Try.prog 15 #[.agg #[.slice A n c], .int .i64 i] w (KidsOut (kidsI l n i) w) := by
  unfold kidsI
  by_cases h : 0 ≤ i ∧ i < (n : Int)
  · rw [if_pos h]
    obtain ⟨k, rfl⟩ := Int.eq_ofNat_of_zero_le h.1
    exact kids_any A n c l hl hn hs k (by omega) w ha
  · rw [if_neg h]
    exact (kids_no A n c i h w).mono fun e w' ⟨he, hb⟩ => ⟨_, he, World.ownsRow_nil _ _ _ _, hb⟩
theorem refKidsI_any (A : Option Addr) (n c : Nat) (l : List Nd) (hl : l.length = n) (hn : n ≤ 1099511627776) (hs : SaidF l) (i : Int) (w : World) (ha : NRow w A l) : Calls Try.prog 29 #[.agg #[.slice A n c], .int .i64 i] w (KidsOut (kidsI l n i) w) := by
  unfold kidsI
  by_cases h : 0 ≤ i ∧ i < (n : Int)
  · rw [if_pos h]
    obtain ⟨k, rfl⟩ := Int.eq_ofNat_of_zero_le h.1
    exact refKids_any A n c l hl hn hs k (by omega) w ha
  · rw [if_neg h]
    exact (refKids_no A n c i h w).mono fun e w' ⟨he, hb⟩ => ⟨_, he, World.ownsRow_nil _ _ _ _, hb⟩
theorem kidsI_len (l : List Nd) (n : Nat) (i : Int) : (kidsI l n i).length ≤ n := by
  unfold kidsI
  split
  · exact kids_len _ _ _
  · simp
/-- a list of numbers as values -/
def ivals (l : List Int) : List Value := l.map (Value.int .i64)
theorem ivals_length (l : List Int) : (ivals l).length = l.length := by simp [ivals]
theorem own_reads {w : World} {base n : Nat} {v : Value} {l : List Int} (hl : l.length = n) (h : w.ownsRow base 3 1 v n (ivals l)) : ∃ A c, v = .slice A n c ∧ n ≤ c ∧ Row w .i64 A l := by
  subst hl
  obtain ⟨A, c, rfl, hc, -⟩ := own_slice h
  exact ⟨A, c, rfl, hc, (OwnI.row (w := w) (base := base) (tT := 3) (k := .i64) (A := A) (n := l.length) (c := c) (xs := l) h).1⟩
theorem ints_ivals (l : List Nat) : ints l = ivals (l.map fun j : Nat => (j : Int)) := by simp [ints, ivals]
theorem nums_take {f : Int} {k j : Nat} (h : j ≤ k) : (nums f k).take j = nums f j := by
  unfold nums
  rw [← List.map_take, List.take_range, Nat.min_eq_left h]
/-- those of the first i numbers that lie from f on, below e -/
theorem want_step (f e i : Nat) : (f ≤ i ∧ i < e → nums (f : Int) (min (i + 1) e - f) = nums (f : Int) (min i e - f) ++ [(i : Int)]) ∧ (¬ (f ≤ i ∧ i < e) → nums (f : Int) (min (i + 1) e - f) = nums (f : Int) (min i e - f)) := by
  constructor
  · intro h
    have h1 : min (i + 1) e - f = (min i e - f) + 1 := by omega
    have h2 : (f : Int) + ((min i e - f : Nat) : Int) = (i : Int) := by omega
    rw [h1, nums_succ, h2]
  · intro h
    have h1 : min (i + 1) e - f = min i e - f := by omega
    rw [h1]
/-- where what is below a number begins and ends; nothing, where there is no such node -/
structure Span (l : List Nd) (n : Nat) (f : Int) (g e : Nat) : Prop where
  le : e ≤ n
  yes : 0 ≤ f ∧ f < (n : Int) → f = (g : Int) ∧ g < n ∧ e = endN (par l) n g ∧ g ≤ e
  no : ¬ (0 ≤ f ∧ f < (n : Int)) → e = 0
theorem span_of (l : List Nd) (n : Nat) (f : Int) : ∃ g e, Span l n f g e := by
  by_cases h : 0 ≤ f ∧ f < (n : Int)
  · obtain ⟨g, rfl⟩ := Int.eq_ofNat_of_zero_le h.1
    have hb := endR_bd (par l) (g : Int) n (n - (g + 1)) (g + 1) (by omega)
    exact ⟨g, endN (par l) n g, hb.2, fun _ => ⟨rfl, by omega, rfl, by unfold endN; omega⟩, fun x => absurd h x⟩
  · exact ⟨0, 0, Nat.zero_le _, fun x => absurd x h, fun _ => rfl⟩
theorem Span.nums {l : List Nd} {n g e : Nat} {f : Int} (h : Span l n f g e) : nums (g : Int) (min n e - g) = nums f (e - g) := by
  have hm : min n e = e := Nat.min_eq_right h.le
  rw [hm]
  by_cases c : 0 ≤ f ∧ f < (n : Int)
  · rw [(h.yes c).1]
  · have : e - g = 0 := by have := h.no c; omega
    rw [this]; rfl
theorem allI_any (A : Option Addr) (n c : Nat) (l : List Nd) (hl : l.length = n) (hn : n ≤ 4398046511104) {f : Int} {g e : Nat} (h : Span l n f g e) (w : World) (ha : NRow w A l) : Calls Try.prog 13 #[.agg #[.slice A n c], .int .i64 f] w (AllOut f (f + ((e - g : Nat) : Int)) w) := by
  by_cases c1 : 0 ≤ f ∧ f < (n : Int)
  · obtain ⟨h1, h2, h3, h4⟩ := h.yes c1
    have := all_yes A n c l hl hn g h2 w ha
    rw [← h3] at this
    rw [h1, show (g : Int) + ((e - g : Nat) : Int) = (e : Int) by omega]
    exact this
  · have h0 : e - g = 0 := by have := h.no c1; omega
    rw [h0, show f + ((0 : Nat) : Int) = f by omega]
    exact all_no A n c f c1 w
set_option maxHeartbeats 1000000 in
theorem asks_off (A : Option Addr) (n c : Nat) (l : List Nd) (hl : l.length = n) (hn : n ≤ 4398046511104) (h : ¬ (n ≤ 300 ∧ rightE l = 0)) (i f s : Int) (nm : Str) (w : World) (ha : NRow w A l) :
    Calls Try.prog 6 #[.agg #[.slice A n c], .int .i64 i, .int .i64 f, .int .i64 s, str nm] w fun e w' => e = .returned (.bool true) ∧ Below w.heap.size w w' := by
  obtain ⟨W0, hW0⟩ : ∃ W, (w.alloc (.cells #[.slice A n c] 24)).alloc (.cells #[.int .i64 s] 3) = W := ⟨_, rfl⟩
  have hb0 : Below w.heap.size w W0 := hW0 ▸ ((Below.refl _ w).alloc (Nat.le_refl _) _).alloc (by simp) _
  have hk1 : Bk W0 w.heap.size 24 #[.slice A n c] := hW0 ▸ (Bk.new w 24 _).alloc _
  have z1 : W0.cell? ⟨w.heap.size, 0, none⟩ = some (.slice A n c) := hk1.cell 0
  have l1 := hk1.lt
  have HB0 := Lib.hid hb0
  have HW0 := Lib.hid hW0
  have HR := Lib.hid (refRight_any A n c l hl hn W0 (ha.below hb0 (Nat.le_refl _)))
  have HH := Lib.hid h
  obtain ⟨E, hE⟩ : ∃ E, rightE l = E := ⟨_, rfl⟩
  rw [hE] at HR HH
  clear hb0 hk1 hW0 ha hE h
  dsimp only [str]
  go_enter Try.func6, Try.ntmps6
  go_upto_region 1 with fail
  rw [HW0.out]
  clear HW0
  by_cases hbig : 300 < n
  · have i1 : (300 : Int) < (n : Int) := by omega
    go_upto_region 2 with fail
    go_wp2_with (go_at_call 18; refine (known_any _).mono ?_; rintro e w1 ⟨rfl, hb1⟩; have HB1 := Lib.hid (HB0.out.trans (hb1.mono HB0.out.size)); clear hb1)
    go_ret
    exact ⟨rfl, HB1.out⟩
  · have i1 : ¬ ((300 : Int) < (n : Int)) := by omega
    have hne : E ≠ 0 := fun e => HH.out ⟨by omega, e⟩
    have i2 : (E != 0) = true := by simpa using hne
    go_upto_region 2 with (go_at_call 20; refine (HR.out).mono ?_; rintro e w1 ⟨rfl, hb1⟩; have HB1 := Lib.hid (HB0.out.trans (hb1.mono HB0.out.size)); clear hb1)
    go_wp2_with (go_at_call 18; refine (known_any _).mono ?_; rintro e w2 ⟨rfl, hb1⟩; have HB2 := Lib.hid (HB1.out.trans (hb1.mono HB1.out.size)); clear hb1)
    go_ret
    exact ⟨rfl, HB2.out⟩
/-- what stands fast while All is ranged over: the tree's and the stop's boxes, the numbers that are wanted, the iterator's own cells -/
structure AskW (w : World) (b4 : Nat) (A' : Option Addr) (c' k0 : Nat) (f : Int) (s' B3 B5 : Nat) (W : World) : Prop where
  bl : Below w.heap.size w W
  b8 : Bk W (w.heap.size + 1) 3 #[.int .i64 (s' : Int)]
  own : W.ownsRow b4 3 1 (.slice A' k0 c') k0 (ivals (nums f k0))
  k3 : Bk W B3 3 #[.int .i64 f]
  k5 : Bk W B5 3 #[.int .i64 (f + (k0 : Int))]
theorem own_below {W W' : World} {base e size n : Nat} {v : Value} {xs : List Value} (h : W.ownsRow base e size v n xs) (hb : Below W.heap.size W W') : W'.ownsRow base e size v n xs :=
  h.kept (row := none) ⟨hb.os, hb.tape, hb.output, hb.size, fun k hk _ => hb.block k hk⟩ (by rcases v.ownBlock with _ | g <;> simp)
theorem AskW.below {w : World} {b4 : Nat} {A' : Option Addr} {c' k0 : Nat} {f : Int} {s' B3 B5 : Nat} {W W' : World} (h : AskW w b4 A' c' k0 f s' B3 B5 W) (hb : Below W.heap.size W W') : AskW w b4 A' c' k0 f s' B3 B5 W' :=
  ⟨h.bl.trans (hb.mono h.bl.size), h.b8.below hb h.b8.lt, own_below h.own hb, h.k3.below hb h.k3.lt, h.k5.below hb h.k5.lt⟩
/-- what has come, in a box of its own -/
def AskI (N0 : World) (pre : List Int) (W : World) : Prop := (∃ v, Boxed W N0.heap.size 39 v ∧ W.ownsRow N0.heap.size 3 1 v pre.length (ivals pre) ∧ True) ∧ Below N0.heap.size N0 W
theorem askI_own {N0 : World} {B : Nat} (h : N0.heap.size ≤ B) : OwnFrom B (AskI N0) :=
  OwnFrom.and ((holdsRow_own N0.heap.size N0.heap.size 39 3 1 (fun pre : List Int => pre.length) ivals (fun _ _ => True)).from B) (ownFrom_below (Nat.le_refl _) h)
end Go.Proofs.Ytofllmofdenadaa
