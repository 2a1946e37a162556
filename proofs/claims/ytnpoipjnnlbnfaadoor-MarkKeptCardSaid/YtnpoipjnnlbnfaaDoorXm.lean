/- casementref4's add: an attribute joins a list of the call's own, if there is none of its name and room. Conditions: the list holds at most 64. casementref4's tag, by place in the list. Conditions: the list is not endless, its runes are scalar values; what Unescape answers is known. -/
import Derived.Test.YtnpoipjnnlbnfaaDoorXj
import Derived.Test.YtnpoipjnnlbnfaaDoorVj
import Derived.BigQuiet
import Derived.Test.YtnpoipjnnlbnfaaDoorVk
namespace Go.Proofs.YtnpoipjnnlbnfaaDoor
set_option linter.unusedVariables false
open Go.RowKit Go.Proofs.Fm Go.Proofs.Fb Go.Proofs.Fk Go.Proofs.Fu

theorem refAttrInfo : (Tryd.prog.info? 29).map (fun i => (i.zero, i.size, i.bytes)) = some (some (.agg #[.string ⟨#[]⟩, .string ⟨#[]⟩]), 2, 32) := by kernel_rfl
theorem below_grown {W W1 : World} (hb : Below W.heap.size W W1) : W.grownBy W1 none := ⟨hb.os, hb.tape, hb.output, hb.size, fun k hk _ => hb.block k hk⟩
theorem grown_any {W W1 : World} {row : Option Nat} (h : W.grownBy W1 none) : W.grownBy W1 row := ⟨h.os, h.tape, h.output, h.size, fun k hk _ => h.block k hk (by simp)⟩
def AddOut (base : Nat) (v : Value) (al : List Att) (W : World) (e : Ending) (w' : World) : Prop :=
  ∃ v', e = .returned v' ∧ w'.ownsRow base 29 2 v' al.length (attrCells al) ∧ W.grownBy w' v.ownBlock ∧ (∀ g, v'.ownBlock = some g → v.ownBlock = some g ∨ W.heap.size ≤ g)
set_option maxRecDepth 100000 in
set_option maxHeartbeats 4000000 in
theorem refAdd_any (base : Nat) (v : Value) (al : List Att) (an av : Str) (W : World) (ho : W.ownsRow base 29 2 v al.length (attrCells al)) (hb : base ≤ W.heap.size) (h64 : al.length ≤ 64) :
    Calls Tryd.prog 78 #[v, .agg #[.string ⟨an.toArray⟩, .string ⟨av.toArray⟩]] W (AddOut base v (add al (an, av)) W) := by
  obtain ⟨A, c, rfl, hlc, hone⟩ := own_slice ho
  obtain ⟨i0, hi0, hz0, hz1, hz2⟩ := info_parts refAttrInfo
  have HI0 := Lib.hid hi0
  have HZ0 := Lib.hid hz0
  have HZ1 := Lib.hid hz1
  have HZ2 := Lib.hid hz2
  have HO := Lib.hid ho
  have HA := Lib.hid (ARow.of_own ho rfl)
  have HB1 := Lib.hid (show Below W.heap.size W (W.alloc (.cells #[.string ⟨an.toArray⟩, .string ⟨av.toArray⟩] 29)) from (Below.refl _ _).alloc (Nat.le_refl _) _)
  clear ho hi0 hz0 hz1 hz2
  go_enter Tryd.func78, Tryd.ntmps78
  go_upto_region 2 with fail
  have HBK := Lib.hid (Bk.new W 29 #[.string ⟨an.toArray⟩, .string ⟨av.toArray⟩])
  refine wp_gen (fun W1 => Below W.heap.size W W1 ∧ W1.ownsRow base 29 2 (.slice A al.length c) al.length (attrCells al) ∧ Bk W1 W.heap.size 29 #[.string ⟨an.toArray⟩, .string ⟨av.toArray⟩]) ⟨HB1.out, HO.out.alloc _, HBK.out⟩ ?_
  rintro W1 ⟨h1, h2, h3⟩
  have HB := Lib.hid h1
  have HO := Lib.hid h2
  have HK := Lib.hid h3
  clear h1 h2 h3 HBK HB1
  obtain ⟨n, hn⟩ : ∃ n, al.length = n := ⟨_, rfl⟩
  have HN := Lib.hid hn
  rw [hn] at HO hlc h64
  simp only [hn]
  clear hn hone
  go_loopg [5] n (fun gk i wr => ∃ k q : Nat, k + gk = n ∧ i = .int .i64 (k : Int) ∧ Hid ((al.drop k).any (fun b => b.1 == an) = al.any (fun b => b.1 == an)) ∧ wr = W1.drewN q)
  case atStart => exact ⟨0, 0, by omega, rfl, Lib.hid rfl, rfl⟩
  case round =>
    obtain ⟨k, q, hk, rfl, ht, rfl⟩ := hrel
    by_cases hlt : k < n
    · have hka : k < al.length := by rw [HN.out]; exact hlt
      have hrow := HA.out.below HB.out (Nat.le_refl _)
      obtain ⟨b, off, rfl, hc⟩ := hrow (by intro e; subst e; simp at hka)
      obtain ⟨c1, c2⟩ := hc k hka
      have i1 : (k : Int) < (n : Int) := by omega
      have HD := Lib.hid (show al.drop k = al[k]'hka :: al.drop (k + 1) from List.drop_eq_getElem_cons hka)
      obtain ⟨x, hx⟩ : ∃ x, (al[k]'hka) = x := ⟨_, rfl⟩
      rw [hx] at c1 c2 HD
      have d0 : W1.cell? ⟨W.heap.size, 0, none⟩ = some (.string ⟨an.toArray⟩) := HK.out.cell 0
      clear hc hrow hx
      dsimp only [str] at c1 c2
      rcases hq : (x.1 == an) with _ | _
      · have HQ := Lib.hid hq
        go_wp2
        go_quiet (fail)
        go_wp2
        go_roundg (gk - 1)
        case measure => omega
        case rel =>
          refine ⟨k + 1, q + nq, by omega, by go_num, Lib.hid ?_, rfl⟩
          rw [← ht.out, HD.out, List.any_cons, HQ.out]; rfl
      · have HQ := Lib.hid hq
        go_wp2
        go_quiet (fail)
        go_wp2
        go_ret
        have hyes : al.any (fun b => b.1 == an) = true := by rw [← ht.out, HD.out, List.any_cons, HQ.out]; rfl
        have hadd : add al (an, av) = al := by unfold Fk.add; rw [if_pos hyes]
        rw [hadd]
        exact ⟨.slice (some ⟨b, off, none⟩) n c, rfl, by rw [HN.out]; exact HO.out, grown_any (grown_drewN (grown_drewN (below_grown HB.out) _) _), fun g hg => .inl (by first | exact hg | (rw [HN.out]; exact hg))⟩
    · obtain rfl : k = n := by omega
      have hno : Hid (al.any (fun b => b.1 == an) = false) := Lib.hid (by
        rw [← ht.out, List.drop_eq_nil_of_le (by rw [HN.out]; omega)]; rfl)
      clear ht
      by_cases hfull : 64 ≤ k
      · have i2 : (64 : Int) ≤ (k : Int) := by omega
        go_wp2
        go_ret
        have hadd : add al (an, av) = al := by unfold Fk.add; rw [if_neg (by rw [hno.out]; simp), if_pos (by rw [HN.out]; exact hfull)]
        rw [hadd]
        exact ⟨.slice A k c, rfl, by rw [HN.out]; exact HO.out, grown_any (grown_drewN (below_grown HB.out) _), fun g hg => .inl (by first | exact hg | (rw [HN.out]; exact hg))⟩
      · have i2 : ¬ ((64 : Int) ≤ (k : Int)) := by omega
        have d0 : W1.cell? ⟨W.heap.size, 0, none⟩ = some (.string ⟨an.toArray⟩) := HK.out.cell 0
        have d1 : W1.cell? ⟨W.heap.size, 1, none⟩ = some (.string ⟨av.toArray⟩) := HK.out.cell 1
        have HOq : Hid ((W1.drewN q).ownsRow base 29 2 (.slice A k c) k (attrCells al)) := HO
        have hbq : base ≤ (W1.drewN q).heap.size := Nat.le_trans hb HB.out.size
        go_wp2_with (at_builtin; refine wpList_append_elt rfl (.tmp 25) (.tmp 27) 23 rfl base 29 i0 _ 2 32 Tryd.underlying23 HI0.out HZ0.out HZ1.out HZ2.out rfl (by omega) _ k _ rfl HOq.out [.string ⟨an.toArray⟩, .string ⟨av.toArray⟩] rfl rfl (by simp [Value.oneCell']) (by unfold maxLen; omega) (by omega) hbq ?_; intro g cap w3 ho3 hg3 hat3 hlt3 hb3; have HO3 := Lib.hid ho3; have HG3 := Lib.hid (show (W1.drewN q).grownBy w3 (Value.slice A k c).ownBlock from hg3); have HAT3 := Lib.hid (show (Value.slice A k c).ownBlock = some g ∨ (W1.drewN q).heap.size < g from hat3); clear ho3 hg3 hat3 hb3)
        go_ret
        have hadd : add al (an, av) = al ++ [(an, av)] := by unfold Fk.add; rw [if_neg (by rw [hno.out]; simp), if_neg (by rw [HN.out]; exact hfull)]
        have hl : (al ++ [(an, av)]).length = k + 1 := by rw [List.length_append, HN.out]; rfl
        rw [hadd]
        refine ⟨.slice (some ⟨g, 0, none⟩) (k + 1) cap, rfl, ?_, by first | exact grown_two (grown_drewN (below_grown HB.out) q) HG3.out | (rw [HN.out]; exact grown_two (grown_drewN (below_grown HB.out) q) HG3.out), ?_⟩
        · rw [hl, attrCells_append]; exact HO3.out
        · intro g' hg'
          have e : g' = g := by simpa [Value.ownBlock] using hg'.symm
          subst e
          rcases HAT3.out with h | h
          · exact .inl (by first | exact h | (rw [HN.out]; exact h))
          · right
            have := HB.out.size
            have h' : W1.heap.size < g' := h
            omega
end Go.Proofs.YtnpoipjnnlbnfaaDoor
namespace Go.Proofs.YtnpoipjnnlbnfaaDoor
set_option linter.unusedVariables false
open Go.RowKit Go.Proofs.Fm Go.Proofs.Fb Go.Proofs.Fk Go.Proofs.Fu

theorem tag_some {xs : List Int} {k j : Nat} {al : List Att} {cl : Bool} {rest : List Int} (h1 : SpanE inName xs k j) (h : attrs (xs.drop j) false [] = some (al, cl, rest)) : tagAt (xs.drop k) = some (Fk.small ((xs.drop k).take (j - k)), al, cl, rest) := by
  unfold tagAt; rw [h1.dw, h1.tw, h]
theorem tag_none {xs : List Int} {k j : Nat} (h1 : SpanE inName xs k j) (h : attrs (xs.drop j) false [] = none) : tagAt (xs.drop k) = none := by
  unfold tagAt; rw [h1.dw, h]
/-- what the reading of a tag by place knows of the world: the result's block, the tag's, its attributes -/
structure Rt (w W : World) (t : Nat) (nm : Str) (v : Value) (al : List Att) : Prop where
  bl : Below w.heap.size w W
  rb : Bk W w.heap.size 25 #[.int .i64 0, .string ⟨#[]⟩, .string ⟨#[]⟩, .slice none 0 0, .bool false]
  tb : Bk W t 25 #[.int .i64 0, .string ⟨nm.toArray⟩, .string ⟨#[]⟩, v, .bool false]
  ow : W.ownsRow w.heap.size 29 2 v al.length (attrCells al)
  lo : w.heap.size < t
  h64 : al.length ≤ 64
section
variable {w W W' : World} {t : Nat} {nm : Str} {v : Value} {al : List Att}
theorem Rt.grow (h : Rt w W t nm v al) (hb : Below W.heap.size W W') : Rt w W' t nm v al :=
  ⟨h.bl.trans (hb.mono h.bl.size), h.rb.below hb h.rb.lt, h.tb.below hb h.tb.lt, own_below h.ow hb (fun g hg => (h.ow.lt _ hg).2), h.lo, h.h64⟩
theorem Rt.drewN (h : Rt w W t nm v al) (q : Nat) : Rt w (W.drewN q) t nm v al :=
  ⟨below_drewN h.bl q, h.rb.drewN q, h.tb.drewN q, h.ow, h.lo, h.h64⟩
theorem Rt.far (h : Rt w W t nm v al) {a : Nat} {cs : Array Value} (ha : Bk W a 29 cs) (hne : v.ownBlock ≠ some a) (hlo : w.heap.size ≤ a) (i : Nat) (u : Value) : Rt w (W.setCell ⟨a, i, none⟩ u) t nm v al :=
  ⟨h.bl.setCell (p := ⟨a, i, none⟩) hlo _, h.rb.far (p := ⟨a, i, none⟩) (bk_ne h.rb ha (by decide)) _, h.tb.far (p := ⟨a, i, none⟩) (bk_ne h.tb ha (by decide)) _, ownsRow_setCell_other h.ow hne _, h.lo, h.h64⟩
theorem Rt.add (h : Rt w W t nm v al) {v' : Value} {al' : List Att} (h64 : al'.length ≤ 64) (ho : W'.ownsRow w.heap.size 29 2 v' al'.length (attrCells al')) (hg : W.grownBy W' v.ownBlock) : Rt w (W'.setCell ⟨t, 3, none⟩ v') t nm v' al' := by
  have n1 : v.ownBlock ≠ some t := own_ne h.ow h.tb (by decide)
  have n2 : v.ownBlock ≠ some w.heap.size := own_ne h.ow h.rb (by decide)
  have tb2 := h.tb.grown hg (fun e => n1 e.symm)
  have rb2 := h.rb.grown hg (fun e => n2 e.symm)
  have hlow : ∀ k, v.ownBlock = some k → w.heap.size ≤ k := fun k hk => (h.ow.lt _ hk).1
  have hb : Below w.heap.size w W' := h.bl.grown hg h.bl.size hlow
  have n3 : v'.ownBlock ≠ some t := own_ne ho tb2 (by decide)
  have hlo := h.lo
  refine ⟨hb.setCell (p := ⟨t, 3, none⟩) (by show w.heap.size ≤ t; omega) _, rb2.far (p := ⟨t, 3, none⟩) (by show w.heap.size ≠ t; omega) _, ?_, ownsRow_setCell_other ho n3 _, h.lo, h64⟩
  simpa using tb2.set_ 3 v'
end
theorem add_le (al : List Att) (a : Att) (h : al.length ≤ 64) : (add al a).length ≤ 64 := by
  unfold Fk.add
  split
  · exact h
  · split
    · exact h
    · rw [List.length_append]; simp; omega
theorem results_cell_tmp2 {fn : Func} {p u u2 : Tmp} {ty : TypeId} (h : fn.results = #[.cell p ty, .tmp u, .tmp u2]) (tmps : Array Value) (P : Program) (w : World) :
    (results fn tmps).run P w =
      ((asAddr (tmps.getD p undef)).run P w).andThen fun a w₁ => ((loadVar ty a).run P w₁).andThen fun v w₂ => .ok (.tuple #[v, tmps.getD u undef, tmps.getD u2 undef]) w₂ := by
  simp only [results, h]
  simp [Sem.run_bind, Result.andThen]
theorem rtag_result {W : World} {br : Nat} {k j : Int} {s1 s2 : ByteArray} {v : Value} {cl ok : Bool} (hone : v.oneCell' = true) (h : Bk W br 25 #[.int .i64 k, .string s1, .string s2, v, .bool cl]) (ts : Array Value) (ht : ts.getD 4 undef = .pointer (some ⟨br, 0, none⟩)) (hj : ts.getD 5 undef = .int .i64 j) (hk : ts.getD 6 undef = .bool ok) :
    (results Tryd.f47 ts).run Tryd.prog W = .ok (.tuple #[.agg #[.int .i64 k, .string s1, .string s2, v, .bool cl], .int .i64 j, .bool ok]) W := by
  have c0 : W.cell? ⟨br, 0, none⟩ = some (.int .i64 k) := h.cell 0
  have c1 : W.cell? ⟨br, 1, none⟩ = some (.string s1) := h.cell 1
  have c2 : W.cell? ⟨br, 2, none⟩ = some (.string s2) := h.cell 2
  have c3 : W.cell? ⟨br, 3, none⟩ = some v := h.cell 3
  have c4 : W.cell? ⟨br, 4, none⟩ = some (.bool cl) := h.cell 4
  rw [results_cell_tmp2 Tryd.results47, ht, hj, hk]
  simp [go_sem, c0, c1, c2, c3, c4, Result.andThen]
theorem set5_bk {W : World} {g : Nat} {x0 x1 x2 x3 x4 : Value} (h : Bk W g 25 #[x0, x1, x2, x3, x4]) (b0 b1 b2 b3 b4 : Value) :
    Bk (((((W.setCell ⟨g, 0, none⟩ b0).setCell ⟨g, 1, none⟩ b1).setCell ⟨g, 2, none⟩ b2).setCell ⟨g, 3, none⟩ b3).setCell ⟨g, 4, none⟩ b4) g 25 #[b0, b1, b2, b3, b4] := by
  have hh := ((((h.set_ 0 b0).set_ 1 b1).set_ 2 b2).set_ 3 b3).set_ 4 b4
  simpa using hh
def RTagOut (xs : List Int) (n k : Nat) (w : World) (e : Ending) (w' : World) : Prop :=
  (match tagAt (xs.drop k) with
    | none => e = .returned (.tuple #[.agg #[.int .i64 0, .string ⟨#[]⟩, .string ⟨#[]⟩, .slice none 0 0, .bool false], .int .i64 (n : Int), .bool false])
    | some (nm, al, cl, rest) => ∃ (v : Value) (j : Nat), e = .returned (.tuple #[.agg #[.int .i64 0, .string ⟨nm.toArray⟩, .string ⟨#[]⟩, v, .bool cl], .int .i64 (j : Int), .bool true]) ∧ k < j ∧ j ≤ n ∧ xs.drop j = rest ∧ al.length ≤ 64 ∧ w'.ownsRow w.heap.size 29 2 v al.length (attrCells al)) ∧ Below w.heap.size w w'
set_option maxRecDepth 100000 in
set_option maxHeartbeats 4000000 in
theorem refTag_any (A : Option Addr) (n c : Nat) (xs : List Int) (hn : xs.length = n) (hx : n ≤ 10000) (hnc : n ≤ c) (hs : ∀ x ∈ xs, Scal x) (hu : ∀ (s : ByteArray) (w : World), s.size ≤ 100000 → Calls Tryd.prog 26 #[.string s] w fun e w' => e = .returned (.string ⟨(Fe.unesc s.data.toList).toArray⟩) ∧ Below w.heap.size w w') (k : Nat) (hk : k < n) (w : World) (hr : Row w .i32 A xs) :
    Calls Tryd.prog 47 #[.slice A n c, .int .i64 (k : Int)] w (RTagOut xs n k w) := by
  have HR := Lib.hid hr
  have HS := Lib.hid hs
  have HATT := Lib.hid (fun m (hm : m < n) W (h : Row W .i32 A xs) => refAttr_any A n c xs hn hx hnc hs hu m hm W h)
  clear hu
  obtain ⟨b, off, rfl, -⟩ := hr.at_ (i := k) (by omega)
  clear hr hs
  go_enter Tryd.func47, Tryd.ntmps47
  go_upto_region 2 with fail
  go_loopg [1] (n - k) (fun gk i wr => ∃ m : Nat, m + gk = n ∧ k ≤ m ∧ i = .int .i64 (m : Int) ∧ Hid (Span inName xs k m) ∧ Hid (Below w.heap.size w wr) ∧ Hid (Bk wr w.heap.size 25 #[.int .i64 0, .string ⟨#[]⟩, .string ⟨#[]⟩, .slice none 0 0, .bool false]))
  case atStart => exact ⟨k, by omega, by omega, rfl, Lib.hid (Span.refl _ _ _), Lib.hid ((Below.refl _ w).alloc (Nat.le_refl _) _), Lib.hid (Bk.new w 25 _)⟩
  case round =>
    obtain ⟨m, hm, hkm, rfl, hsp, hb, hbk⟩ := hrel
    obtain ⟨B, hB⟩ : ∃ B, (decide (m < n) && inName (xs.getD m 0)) = B := ⟨_, rfl⟩
    have HB := Lib.hid hB
    clear hB
    go_upto_region 2 with fail
    go_cut [37] (fun s wx => s = .bool B ∧ ∃ q, wx = wr.drewN q)
    case first =>
      by_cases hlt : m < n
      · have i1 : (m : Int) < (n : Int) := by omega
        obtain ⟨b', off', e0, hc⟩ := (HR.out.below hb.out (Nat.le_refl _)).at_ (i := m) (by omega)
        injection e0 with e0; injection e0 with e1 e2
        subst e1; subst e2
        have c1 := hc m (by omega)
        obtain ⟨u, hu⟩ : ∃ u, xs.getD m 0 = u := ⟨_, rfl⟩
        rw [hu] at c1
        have hBB := HB.out
        rw [hu, decide_eq_true hlt, Bool.true_and] at hBB
        have HBL := Lib.hid (fun W => refBlank_any u W)
        obtain ⟨L, hL⟩ : ∃ L, Fk.blank u = L := ⟨_, rfl⟩
        have hBC : Hid ((!L && u != 47 && u != 62) = B) := Lib.hid (by rw [← hBB, ← hL]; rfl)
        rw [hL] at HBL
        clear hc hu hBB hL
        cases L
        · rcases h47 : (u != 47) with _ | _
          · have hf : Hid (false = B) := Lib.hid (by rw [← hBC.out, h47]; rfl)
            go_wp2_with (go_at_call 75; refine (HBL.out _).mono ?_; rintro e w1 ⟨rfl, q1, rfl⟩)
            go_meet
            exact ⟨by rw [hf.out], q1, rfl⟩
          · rcases h62 : (u != 62) with _ | _
            · have hf : Hid (false = B) := Lib.hid (by rw [← hBC.out, h47, h62]; rfl)
              go_wp2_with (go_at_call 75; refine (HBL.out _).mono ?_; rintro e w1 ⟨rfl, q1, rfl⟩)
              go_meet
              exact ⟨by rw [hf.out], q1, rfl⟩
            · have hf : Hid (true = B) := Lib.hid (by rw [← hBC.out, h47, h62]; rfl)
              go_wp2_with (go_at_call 75; refine (HBL.out _).mono ?_; rintro e w1 ⟨rfl, q1, rfl⟩)
              go_meet
              exact ⟨by rw [hf.out], q1, rfl⟩
        · have hf : Hid (false = B) := Lib.hid (by rw [← hBC.out]; rfl)
          go_wp2_with (go_at_call 75; refine (HBL.out _).mono ?_; rintro e w1 ⟨rfl, q1, rfl⟩)
          go_meet
          exact ⟨by rw [hf.out], q1, rfl⟩
      · have hf : Hid (false = B) := Lib.hid (by rw [← HB.out, decide_eq_false hlt]; rfl)
        go_wp2_with fail
        go_meet
        exact ⟨by rw [hf.out], 0, rfl⟩
    case rest =>
      obtain ⟨rfl, q, rfl⟩ := hcut
      cases B
      · have HE := Lib.hid (span_out hn hsp.out HB.out)
        obtain ⟨S, hS⟩ : ∃ S, Fk.small ((xs.drop k).take (m - k)) = S := ⟨_, rfl⟩
        have HSM : Hid (∀ W, Below w.heap.size w W → Calls Tryd.prog 76 #[.slice (some ⟨b, off + k, none⟩) (m - k) (c - k)] W fun e w' => e = .returned (.string ⟨S.toArray⟩) ∧ Below W.heap.size W w') := Lib.hid (fun W hW => by
          rw [← hS]
          exact refSmall_any _ (m - k) _ ((xs.drop k).take (m - k)) (by rw [List.length_take, List.length_drop]; omega) (by omega) (fun x hx => HS.out x (List.mem_of_mem_drop (List.mem_of_mem_take hx))) W (row_sub (HR.out.below hW (Nat.le_refl _)) k (m - k)))
        have HSOME := Lib.hid (fun al cl rest (h : attrs (xs.drop m) false [] = some (al, cl, rest)) => tag_some HE.out h)
        have HNONE := Lib.hid (fun (h : attrs (xs.drop m) false [] = none) => tag_none HE.out h)
        rw [hS] at HSOME
        have HW1 := Lib.hid (below_drewN hb.out q)
        have HK1 := Lib.hid (hbk.out.drewN q)
        have i1 : c - k ≠ 0 := by omega
        have hmn : m ≤ n := by omega
        clear HB hsp hS hb hbk hm HE
        go_upto_region 6 with (go_at_call 76; (with_reducible refine (HSM.out _ HW1.out).mono ?_); rintro e w2 ⟨rfl, hb2⟩; have HW2 := Lib.hid (HW1.out.trans (hb2.mono HW1.out.size)); have HK2 := Lib.hid (HK1.out.below hb2 HK1.out.lt); clear hb2)
        refine wp_gen (fun W => Rt w W w2.heap.size S (.slice none 0 0) []) ?_ ?_
        · exact ⟨HW2.out.alloc HW2.out.size _, HK2.out.alloc _, Bk.new w2 25 _, World.ownsRow_nil _ _ _ _, HK2.out.lt, by simp⟩
        intro W3 h3
        have HT := Lib.hid h3
        clear HSM HW1 HK1 HW2 HK2 h3 i1
        go_loopg [1, 9] (n - m) (fun gk i sv wr => ∃ (m2 : Nat) (sl : Bool) (v : Value) (al : List Att), m2 + gk = n ∧ m ≤ m2 ∧ i = .int .i64 (m2 : Int) ∧ sv = .bool sl ∧ Hid (attrs (xs.drop m2) sl al = attrs (xs.drop m) false []) ∧ Hid (Rt w wr w2.heap.size S v al))
        case atStart => exact ⟨m, false, _, [], by omega, Nat.le_refl _, rfl, rfl, Lib.hid rfl, HT⟩
        case round =>
          obtain ⟨m2, sl, v, al, hm2, hmm2, rfl, rfl, hat, ht⟩ := hrel
          obtain ⟨A2, c2, rfl, hlc2, hone⟩ := own_slice ht.out.ow
          by_cases hlt : m2 < n
          · have i2 : (m2 : Int) < (n : Int) := by omega
            obtain ⟨b', off', e0, hc⟩ := (HR.out.below ht.out.bl (Nat.le_refl _)).at_ (i := m2) (by omega)
            injection e0 with e0; injection e0 with e1 e2
            subst e1; subst e2
            have cu := hc m2 (by omega)
            obtain ⟨u, hu⟩ : ∃ u, xs.getD m2 0 = u := ⟨_, rfl⟩
            rw [hu] at cu
            have HX := Lib.hid (show xs.drop m2 = u :: xs.drop (m2 + 1) by rw [drop_c (by omega), hu])
            clear hc hu
            have trace_here := True.intro
            rcases h62 : (u == 62) with _ | _
            · have hu62 : u ≠ 62 := by simpa using h62
              have HBL := Lib.hid (fun W => refBlank_any u W)
              obtain ⟨L, hL⟩ : ∃ L, Fk.blank u = L := ⟨_, rfl⟩
              rw [hL] at HBL
              rcases h47 : (u == 47) with _ | _
              · cases L
                · have hG := attrs_attr (xs.drop (m2 + 1)) sl al hu62 (by rw [hL, h47]; rfl)
                  rw [← HX.out, hat.out] at hG
                  have HG := Lib.hid hG
                  have HAT := Lib.hid (fun W h => HATT.out m2 hlt W h)
                  clear hG hat hu62 hL
                  go_upto_region 14 with (go_at_call 75; refine (HBL.out _).mono ?_; rintro e w5 ⟨rfl, q5, rfl⟩)
                  refine wp_gen (fun W => Rt w W w2.heap.size S (.slice A2 al.length c2) al) (ht.out.drewN q5) ?_
                  intro W4 h4
                  have HT4 := Lib.hid h4
                  have HBK := Lib.hid (Bk.new W4 29 #[.string ⟨#[]⟩, .string ⟨#[]⟩])
                  have HT4a := Lib.hid (h4.grow ((Below.refl _ W4).alloc (Nat.le_refl _) (.cells #[.string ⟨#[]⟩, .string ⟨#[]⟩] 29)))
                  have HAT2 := Lib.hid (HAT.out _ (HR.out.below HT4a.out.bl (Nat.le_refl _)))
                  have HNE : Hid ((Value.slice A2 al.length c2).ownBlock ≠ some W4.heap.size) := Lib.hid (fun e => by have := (h4.ow.lt _ e).2; omega)
                  clear HAT h4 ht cu i2 HX
                  go_upto_region 16 with (go_at_call 77; (with_reducible refine (HAT2.out).mono ?_); rintro e w6 ⟨⟨j, an, av, rfl, hj1, hj2, hj3⟩, hb6⟩; have HJ3 := Lib.hid hj3; have HT6 := Lib.hid (HT4a.out.grow hb6); have HBA := Lib.hid (HBK.out.below hb6 HBK.out.lt); clear hb6 hj3; have x0 : w6.cell? ⟨W4.heap.size, 0, none⟩ = some (.string ⟨#[]⟩) := HBA.out.cell 0; have x1 : w6.cell? ⟨W4.heap.size, 1, none⟩ = some (.string ⟨#[]⟩) := HBA.out.cell 1; have y0 := HBA.out.frozen 0; have y1 := HBA.out.frozen 1)
                  refine wp_gen (fun W => Rt w W w2.heap.size S (.slice A2 al.length c2) al ∧ Bk W W4.heap.size 29 #[.string ⟨an.toArray⟩, .string ⟨av.toArray⟩]) ?_ ?_
                  · have hlo : w.heap.size ≤ W4.heap.size := HT4.out.bl.size
                    have h1 := HT6.out.far HBA.out HNE.out hlo 0 (.string ⟨an.toArray⟩)
                    have h2 := HBA.out.set_ 0 (.string ⟨an.toArray⟩)
                    refine ⟨h1.far h2 HNE.out hlo 1 (.string ⟨av.toArray⟩), ?_⟩
                    simpa using h2.set_ 1 (.string ⟨av.toArray⟩)
                  rintro W7 ⟨h7, h7b⟩
                  have HT7 := Lib.hid h7
                  have b0 : W7.cell? ⟨W4.heap.size, 0, none⟩ = some (.string ⟨an.toArray⟩) := h7b.cell 0
                  have b1 : W7.cell? ⟨W4.heap.size, 1, none⟩ = some (.string ⟨av.toArray⟩) := h7b.cell 1
                  have t3 : W7.cell? ⟨w2.heap.size, 3, none⟩ = some (.slice A2 al.length c2) := h7.tb.cell 3
                  have HADD := Lib.hid (refAdd_any w.heap.size (.slice A2 al.length c2) al an av W7 h7.ow h7.bl.size h7.h64)
                  have hGG := HG.out
                  rw [HJ3.out] at hGG
                  have HGG := Lib.hid hGG.symm
                  have HLE := Lib.hid (add_le al (an, av) h7.h64)
                  clear h7 h7b HG hGG HJ3 HT6 HBA x0 x1 y0 y1 HT4a HBK HAT2 HT4 HNE
                  obtain ⟨al', hal'⟩ : ∃ al', add al (an, av) = al' := ⟨_, rfl⟩
                  rw [hal'] at HADD HGG HLE
                  clear hal'
                  go_wp2_with (go_at_call 78; (with_reducible refine (HADD.out).mono ?_); rintro e w8 ⟨v', rfl, ho8, hg8, -⟩; obtain ⟨A3, c3, rfl, -, -⟩ := own_slice ho8; have HO8 := Lib.hid ho8; have HG8 := Lib.hid hg8; have n1 := own_ne HT7.out.ow HT7.out.tb (by decide); have hb8 := HT7.out.tb.grown hg8 (fun e => n1 e.symm); have s3 : w8.cell? ⟨w2.heap.size, 3, none⟩ = some (.slice A2 al.length c2) := hb8.cell 3; have fr3 := hb8.frozen 3; clear ho8 hg8 n1 hb8)
                  go_roundg (n - j)
                  case measure => omega
                  case rel => exact ⟨j, false, _, al', by omega, by omega, rfl, rfl, HGG, Lib.hid (HT7.out.add HLE.out HO8.out HG8.out)⟩
                · have hG := attrs_blank (xs.drop (m2 + 1)) sl al hu62 (by rw [hL]; rfl)
                  rw [← HX.out, hat.out, h47] at hG
                  have HG := Lib.hid hG.symm
                  clear hG hat hu62 hL
                  go_wp2_with (go_at_call 75; refine (HBL.out _).mono ?_; rintro e w5 ⟨rfl, q5, rfl⟩)
                  go_roundg (gk - 1)
                  case measure => omega
                  case rel => exact ⟨m2 + 1, false, _, al, by omega, by omega, by go_num, rfl, HG, Lib.hid (ht.out.drewN q5)⟩
              · have hG := attrs_blank (xs.drop (m2 + 1)) sl al hu62 (by rw [h47]; simp)
                rw [← HX.out, hat.out, h47] at hG
                have HG := Lib.hid hG.symm
                clear hG hat hu62 hL
                cases L
                · go_wp2_with (go_at_call 75; refine (HBL.out _).mono ?_; rintro e w5 ⟨rfl, q5, rfl⟩)
                  go_roundg (gk - 1)
                  case measure => omega
                  case rel => exact ⟨m2 + 1, true, _, al, by omega, by omega, by go_num, rfl, HG, Lib.hid (ht.out.drewN q5)⟩
                · go_wp2_with (go_at_call 75; refine (HBL.out _).mono ?_; rintro e w5 ⟨rfl, q5, rfl⟩)
                  go_roundg (gk - 1)
                  case measure => omega
                  case rel => exact ⟨m2 + 1, true, _, al, by omega, by omega, by go_num, rfl, HG, Lib.hid (ht.out.drewN q5)⟩
            · have hu62 : u = 62 := by simpa using h62
              have hh := hat.out
              rw [HX.out, hu62, attrs_end] at hh
              have HTAG := Lib.hid (HSOME.out _ _ _ hh.symm)
              clear hh hu62 hat
              have f0 := ht.out.rb.frozen 0
              have f1 := ht.out.rb.frozen 1
              have f2 := ht.out.rb.frozen 2
              have f3 := ht.out.rb.frozen 3
              have f4 := ht.out.rb.frozen 4
              have g0 : wr.cell? ⟨w.heap.size, 0, none⟩ = some (.int .i64 0) := ht.out.rb.cell 0
              have g1 : wr.cell? ⟨w.heap.size, 1, none⟩ = some (.string ⟨#[]⟩) := ht.out.rb.cell 1
              have g2 : wr.cell? ⟨w.heap.size, 2, none⟩ = some (.string ⟨#[]⟩) := ht.out.rb.cell 2
              have g3 : wr.cell? ⟨w.heap.size, 3, none⟩ = some (.slice none 0 0) := ht.out.rb.cell 3
              have g4 : wr.cell? ⟨w.heap.size, 4, none⟩ = some (.bool false) := ht.out.rb.cell 4
              have t0 : wr.cell? ⟨w2.heap.size, 0, none⟩ = some (.int .i64 0) := ht.out.tb.cell 0
              have t1 : wr.cell? ⟨w2.heap.size, 1, none⟩ = some (.string ⟨S.toArray⟩) := ht.out.tb.cell 1
              have t2 : wr.cell? ⟨w2.heap.size, 2, none⟩ = some (.string ⟨#[]⟩) := ht.out.tb.cell 2
              have t3 : wr.cell? ⟨w2.heap.size, 3, none⟩ = some (.slice A2 al.length c2) := ht.out.tb.cell 3
              have t4 : wr.cell? ⟨w2.heap.size, 4, none⟩ = some (.bool false) := ht.out.tb.cell 4
              have e4 := ht.out.tb.frozen 4
              have hd1 : (w2.heap.size = w.heap.size) = False := eq_false (Nat.ne_of_gt ht.out.lo)
              have hd2 : (w.heap.size = w2.heap.size) = False := eq_false (Nat.ne_of_lt ht.out.lo)
              go_wp2_with fail
              have hlo := ht.out.lo
              have hrb := ht.out.rb.far (p := ⟨w2.heap.size, 4, none⟩) (by show w.heap.size ≠ w2.heap.size; omega) (.bool sl)
              have hfin := set5_bk hrb (.int .i64 0) (.string ⟨S.toArray⟩) (.string ⟨#[]⟩) (.slice A2 al.length c2) (.bool sl)
              have n1 : (Value.slice A2 al.length c2).ownBlock ≠ some w2.heap.size := own_ne ht.out.ow ht.out.tb (by decide)
              have n2 : (Value.slice A2 al.length c2).ownBlock ≠ some w.heap.size := own_ne ht.out.ow ht.out.rb (by decide)
              refine bodyPost_ret (rtag_result rfl hfin _ rfl rfl rfl) rfl ?_
              refine ⟨?_, ?_⟩
              · rw [HTAG.out]
                refine ⟨.slice A2 al.length c2, m2 + 1, by go_num, by omega, by omega, rfl, ht.out.h64, ?_⟩
                exact ownsRow_setCell_other (ownsRow_setCell_other (ownsRow_setCell_other (ownsRow_setCell_other (ownsRow_setCell_other (ownsRow_setCell_other ht.out.ow n1 _) n2 _) n2 _) n2 _) n2 _) n2 _
              · exact (((((ht.out.bl.setCell (p := ⟨w2.heap.size, 4, none⟩) (by show w.heap.size ≤ w2.heap.size; omega) _).setCell (p := ⟨w.heap.size, 0, none⟩) (Nat.le_refl _) _).setCell (p := ⟨w.heap.size, 1, none⟩) (Nat.le_refl _) _).setCell (p := ⟨w.heap.size, 2, none⟩) (Nat.le_refl _) _).setCell (p := ⟨w.heap.size, 3, none⟩) (Nat.le_refl _) _).setCell (p := ⟨w.heap.size, 4, none⟩) (Nat.le_refl _) _
          · have hh := hat.out
            rw [List.drop_eq_nil_of_le (by omega), attrs_nil] at hh
            have HTAG := Lib.hid (HNONE.out hh.symm)
            obtain rfl : m2 = n := by omega
            clear hh hat
            have f0 := ht.out.rb.frozen 0
            have f1 := ht.out.rb.frozen 1
            have f2 := ht.out.rb.frozen 2
            have f3 := ht.out.rb.frozen 3
            have f4 := ht.out.rb.frozen 4
            have g0 : wr.cell? ⟨w.heap.size, 0, none⟩ = some (.int .i64 0) := ht.out.rb.cell 0
            have g1 : wr.cell? ⟨w.heap.size, 1, none⟩ = some (.string ⟨#[]⟩) := ht.out.rb.cell 1
            have g2 : wr.cell? ⟨w.heap.size, 2, none⟩ = some (.string ⟨#[]⟩) := ht.out.rb.cell 2
            have g3 : wr.cell? ⟨w.heap.size, 3, none⟩ = some (.slice none 0 0) := ht.out.rb.cell 3
            have g4 : wr.cell? ⟨w.heap.size, 4, none⟩ = some (.bool false) := ht.out.rb.cell 4
            go_wp2_with fail
            have hfin := set5_bk ht.out.rb (.int .i64 0) (.string ⟨#[]⟩) (.string ⟨#[]⟩) (.slice none 0 0) (.bool false)
            refine bodyPost_ret (rtag_result rfl hfin _ rfl rfl rfl) rfl ?_
            refine ⟨?_, ?_⟩
            · rw [HTAG.out]
            · exact ((((ht.out.bl.setCell (p := ⟨w.heap.size, 0, none⟩) (Nat.le_refl _) _).setCell (p := ⟨w.heap.size, 1, none⟩) (Nat.le_refl _) _).setCell (p := ⟨w.heap.size, 2, none⟩) (Nat.le_refl _) _).setCell (p := ⟨w.heap.size, 3, none⟩) (Nat.le_refl _) _).setCell (p := ⟨w.heap.size, 4, none⟩) (Nat.le_refl _) _
      · obtain ⟨hsp2, hlt⟩ := span_go hn hsp.out HB.out
        have HSP := Lib.hid hsp2
        clear HB hsp hsp2
        go_wp2_with fail
        go_roundg (gk - 1)
        case measure => omega
        case rel => exact ⟨m + 1, by omega, by omega, by go_num, HSP, Lib.hid (below_drewN hb.out q), Lib.hid (hbk.out.drewN q)⟩
end Go.Proofs.YtnpoipjnnlbnfaaDoor
