/- Markup cut into tokens, by labels and goto. No conditions but that the list is not endless. -/
import Derived.Test.YtnpoipjnnlbnfaaDoorVk
import Derived.Deep.DeepCutAuto
namespace Go.Proofs.YtnpoipjnnlbnfaaDoor
set_option linter.unusedVariables false
open Go.RowKit Go.Proofs.Fm Go.Proofs.Fb Go.Proofs.Fk Go.Proofs.Fs

/-- the cells of a list of tokens, each with its list of attributes -/
def tokCells (ts : List (Tok × Value)) : List Value := (ts.map fun p => [.int .i64 (p.1.kind : Int), str p.1.name, str p.1.text, p.2, .bool p.1.closed]).flatten
theorem tokCells_append (a b : List (Tok × Value)) : tokCells (a ++ b) = tokCells a ++ tokCells b := by simp [tokCells]
/-- tokens in memory of their own: their row, their attributes' rows, each apart from the others -/
structure TokRows (B : Nat) (W : World) (V : Value) (ts : List (Tok × Value)) : Prop where
  row : W.ownsRow B 44 5 V ts.length (tokCells ts)
  each : ∀ p ∈ ts, W.ownsRow B 29 2 p.2 p.1.attrs.length (attrCells p.1.attrs)
  apart : ts.Pairwise (fun p q => p.2.ownBlock = none ∨ p.2.ownBlock ≠ q.2.ownBlock)
theorem TokRows.grown {B : Nat} {W W' : World} {V : Value} {ts : List (Tok × Value)} {j : Nat} (h : TokRows B W V ts) (hg : W.grownBy W' (some j)) (hj : j < B) : TokRows B W' V ts :=
  ⟨h.row.kept hg (.inr (fun e => by have := (h.row.lt _ e).1; omega)), fun p hp => (h.each p hp).kept hg (.inr (fun e => by have := ((h.each p hp).lt _ e).1; omega)), h.apart⟩
theorem TokRows.below {B : Nat} {W W' : World} {V : Value} {ts : List (Tok × Value)} (h : TokRows B W V ts) (hb : Below W.heap.size W W') : TokRows B W' V ts :=
  ⟨own_below h.row hb (fun g hg => (h.row.lt _ hg).2), fun p hp => own_below (h.each p hp) hb (fun g hg => ((h.each p hp).lt _ hg).2), h.apart⟩
theorem TokRows.low {B : Nat} {W : World} {V : Value} {ts : List (Tok × Value)} (h : TokRows B W V ts) {c : Nat} (hc : c < B) (i : Nat) (u : Value) : TokRows B (W.setCell ⟨c, i, none⟩ u) V ts :=
  ⟨ownsRow_setCell_other h.row (fun e => absurd (h.row.lt _ e).1 (by show ¬ B ≤ c; omega)) u, fun p hp => ownsRow_setCell_other (h.each p hp) (fun e => absurd ((h.each p hp).lt _ e).1 (by show ¬ B ≤ c; omega)) u, h.apart⟩
theorem At.off {B b c : Nat} {w : World} {L : List Int} {cs : Array Value} (h : At B w b L) (hc : Bk w c 44 cs) (i : Nat) (u : Value) : At B (w.setCell ⟨c, i, none⟩ u) b L := by
  obtain ⟨base, A, n, k, j, xs, h1, h2, h3, h4, h5, h6, h7⟩ := h.ex
  exact ⟨base, A, n, k, j, xs, ⟨h1.blk.far (p := ⟨c, i, none⟩) (bk_ne h1.blk hc (by decide)) u, ownsRow_setCell_other h1.own (own_ne h1.own hc (by decide)) u, h1.hb, h1.le⟩, h2, h3, h4, h5, h6, h7⟩
/-- what the cutting knows of the world -/
structure Tk (w W : World) (b bt B : Nat) (R : List Int) (V : Value) (ts : List (Tok × Value)) (tc : Array Value) : Prop where
  at_ : At B W b R
  bl : Below w.heap.size w W
  tb : Bk W bt 44 tc
  rows : TokRows B W V ts
  hB : w.heap.size ≤ bt ∧ bt < B ∧ B ≤ W.heap.size ∧ w.heap.size ≤ b ∧ b ≠ bt
section
variable {w W W' : World} {b bt B : Nat} {R R' : List Int} {V : Value} {ts : List (Tok × Value)} {tc : Array Value}
theorem Tk.step (h : Tk w W b bt B R V ts tc) (ha : At B W' b R') (hg : W.grownBy W' (some b)) : Tk w W' b bt B R' V ts tc := by
  have hB := h.hB
  have hb := h.at_.lt.1
  refine ⟨ha, ?_, h.tb.grown hg (by simp; omega), h.rows.grown hg hb, hB.1, hB.2.1, Nat.le_trans hB.2.2.1 hg.size, hB.2.2.2⟩
  exact h.bl.grown hg (by have := h.bl.size; omega) (fun k hk => by injection hk with hk; omega)
theorem Tk.grow (h : Tk w W b bt B R V ts tc) (hb : Below W.heap.size W W') : Tk w W' b bt B R V ts tc :=
  ⟨h.at_.below hb h.hB.2.2.1, h.bl.trans (hb.mono h.bl.size), bk_below h.tb hb, h.rows.below hb, h.hB.1, h.hB.2.1, Nat.le_trans h.hB.2.2.1 hb.size, h.hB.2.2.2⟩
theorem Tk.set1 (h : Tk w W b bt B R V ts tc) (i : Nat) (u : Value) : Tk w (W.setCell ⟨bt, i, none⟩ u) b bt B R V ts (tc.setIfInBounds i u) := by
  have hB := h.hB
  refine ⟨h.at_.off h.tb i u, h.bl.setCell (p := ⟨bt, i, none⟩) hB.1 u, h.tb.set_ i u, h.rows.low hB.2.1 i u, hB.1, hB.2.1, by simpa [World.setCell] using hB.2.2.1, hB.2.2.2⟩
theorem Tk.set5 {a0 a1 a2 a3 a4 : Value} (h : Tk w W b bt B R V ts #[a0, a1, a2, a3, a4]) (b0 b1 b2 b3 b4 : Value) :
    Tk w (((((W.setCell ⟨bt, 0, none⟩ b0).setCell ⟨bt, 1, none⟩ b1).setCell ⟨bt, 2, none⟩ b2).setCell ⟨bt, 3, none⟩ b3).setCell ⟨bt, 4, none⟩ b4) b bt B R V ts #[b0, b1, b2, b3, b4] :=
  ((((h.set1 0 b0).set1 1 b1).set1 2 b2).set1 3 b3).set1 4 b4
theorem Tk.add (h : Tk w W b bt B R V ts tc) (x : Tok) (v : Value) {o : Obj} {W2 : World} {g cap : Nat} (hv : W.ownsRow B 29 2 v x.attrs.length (attrCells x.attrs)) (hap : ∀ p ∈ ts, p.2.ownBlock = none ∨ p.2.ownBlock ≠ v.ownBlock)
    (ho : W2.ownsRow B 44 5 (.slice (some ⟨g, 0, none⟩) (ts.length + 1) cap) (ts.length + 1) (tokCells ts ++ [.int .i64 (x.kind : Int), str x.name, str x.text, v, .bool x.closed])) (hg : (W.alloc o).grownBy W2 V.ownBlock) :
    Tk w W2 b bt B R (.slice (some ⟨g, 0, none⟩) (ts.length + 1) cap) (ts ++ [(x, v)]) tc := by
  have h1 := h.grow ((Below.refl _ W).alloc (Nat.le_refl _) o)
  have hB := h1.hB
  have hlow : ∀ k, V.ownBlock = some k → B ≤ k := fun k hk => (h.rows.row.lt _ hk).1
  have hb2 : Below B (W.alloc o) W2 := (Below.refl _ _).grown hg hB.2.2.1 hlow
  have hne : ∀ (p : Value) (n : Nat) (xs : List Value), (W.alloc o).ownsRow B 29 2 p n xs → W2.ownsRow B 29 2 p n xs := fun p n xs hp => by
    rcases own_own (h1.rows.row) hp (by decide) with e | e
    · exact hp.kept hg (by
        rcases hpo : p.ownBlock with _ | k
        · exact .inl rfl
        · right; rw [e]; simp)
    · exact hp.kept hg (.inr (fun e2 => e e2.symm))
  refine ⟨h1.at_.below hb2 (Nat.le_refl _), h1.bl.trans (hb2.mono (by omega)), h1.tb.below hb2 hB.2.1, ⟨?_, ?_, ?_⟩, hB.1, hB.2.1, Nat.le_trans hB.2.2.1 hg.size, hB.2.2.2⟩
  · rw [List.length_append, tokCells_append]; exact ho
  · intro p hp
    rcases List.mem_append.1 hp with hp | hp
    · exact hne _ _ _ (h1.rows.each p hp)
    · rw [List.mem_singleton.1 hp]
      exact hne _ _ _ (hv.alloc o)
  · rw [List.pairwise_append]
    exact ⟨h.rows.apart, List.pairwise_singleton _ _, fun p hp q hq => by rw [List.mem_singleton.1 hq]; exact hap p hp⟩
end
theorem own_mono {W : World} {B B' : Nat} {e : TypeId} {size n : Nat} {v : Value} {xs : List Value} (h : W.ownsRow B e size v n xs) (hb : B' ≤ B) : W.ownsRow B' e size v n xs :=
  ⟨h.1, h.2.imp id (fun ⟨g, cap, cur, hv, hbase, rest⟩ => ⟨g, cap, cur, hv, Nat.le_trans hb hbase, rest⟩)⟩
theorem own_set5 {W : World} {B bt : Nat} {tc : Array Value} {v : Value} {n : Nat} {xs : List Value} (hv : W.ownsRow B 29 2 v n xs) (hb : Bk W bt 44 tc) (b0 b1 b2 b3 b4 : Value) :
    (((((W.setCell ⟨bt, 0, none⟩ b0).setCell ⟨bt, 1, none⟩ b1).setCell ⟨bt, 2, none⟩ b2).setCell ⟨bt, 3, none⟩ b3).setCell ⟨bt, 4, none⟩ b4).ownsRow B 29 2 v n xs := by
  have hn : v.ownBlock ≠ some bt := own_ne hv hb (by decide)
  exact ownsRow_setCell_other (ownsRow_setCell_other (ownsRow_setCell_other (ownsRow_setCell_other (ownsRow_setCell_other hv hn _) hn _) hn _) hn _) hn _
theorem apart_new {W W' : World} {B : Nat} {V v : Value} {ts : List (Tok × Value)} {n : Nat} {xs : List Value} (h : TokRows B W V ts) (hv : W'.ownsRow W.heap.size 29 2 v n xs) : ∀ p ∈ ts, p.2.ownBlock = none ∨ p.2.ownBlock ≠ v.ownBlock := fun p hp => by
  rcases hk : p.2.ownBlock with _ | k
  · exact .inl rfl
  · right
    intro e
    have h1 := ((h.each p hp).lt _ hk).2
    have h2 := (hv.lt _ e.symm).1
    omega
theorem apart_none {ts : List (Tok × Value)} : ∀ p ∈ ts, p.2.ownBlock = none ∨ p.2.ownBlock ≠ (Value.slice none 0 0).ownBlock := fun p hp => by
  rcases hk : p.2.ownBlock with _ | k
  · exact .inl rfl
  · right; simp [Value.ownBlock]
theorem tokInfo : (Tryd.prog.info? 44).map (fun i => (i.zero, i.size, i.bytes)) = some (some (.agg #[.int .i64 0, .string ⟨#[]⟩, .string ⟨#[]⟩, .slice none 0 0, .bool false]), 5, 72) := by kernel_rfl
theorem chars_fst : ∀ L : List Int, (Fk.chars L).1.length ≤ L.length
  | [] => by simp [Fk.chars]
  | r :: t => by
    rw [Fk.chars]
    split
    · simp
    · have := chars_fst t
      simp only [List.length_cons]; omega
theorem raw_len (nm : Str) : ∀ L : List Int, (Fk.raw nm L).1.length + (Fk.raw nm L).2.length = L.length
  | [] => by simp [Fk.raw]
  | r :: t => by
    rw [Fk.raw]
    split
    · simp
    · have := raw_len nm t
      simp only [List.length_cons]; omega
/-! ### what stands ahead -/
theorem kindAt_cases {r : Int} {t : List Int} (h : begins (r :: t) = true) :
    (headLetter t = true ∧ kindAt (r :: t) = 2) ∨ (headLetter t = false ∧ (t.head? = some 47 ∧ headLetter (t.drop 1) = true) ∧ kindAt (r :: t) = 3) ∨
    (headLetter t = false ∧ ¬ (t.head? = some 47 ∧ headLetter (t.drop 1) = true) ∧ [60, 33, 45, 45] <+: r :: t ∧ kindAt (r :: t) = 4) ∨
    (headLetter t = false ∧ ¬ (t.head? = some 47 ∧ headLetter (t.drop 1) = true) ∧ ¬ ([60, 33, 45, 45] <+: r :: t) ∧ kindAt (r :: t) = 5) := by
  unfold kindAt
  rw [if_neg (by simp), if_neg (by simp [h])]
  have e1 : (r :: t).drop 1 = t := rfl
  have e2 : (r :: t).drop 2 = t.drop 1 := rfl
  rw [e1, e2]
  rcases h1 : headLetter t with _ | _
  · right
    by_cases h2 : t.head? = some 47 ∧ headLetter (t.drop 1) = true
    · exact .inl ⟨rfl, h2, by rw [if_neg (by simp), if_pos h2]⟩
    · right
      by_cases h3 : [60, 33, 45, 45] <+: r :: t
      · exact .inl ⟨rfl, h2, h3, by rw [if_neg (by simp), if_neg h2, if_pos h3]⟩
      · exact .inr ⟨rfl, h2, h3, by rw [if_neg (by simp), if_neg h2, if_neg h3]⟩
  · left; exact ⟨rfl, by simp⟩
/-- the frame at a label -/
def FrK (LA : Option Addr) (LN LC b bt : Nat) (V : Value) (a : Act) : Prop := ∃ u : Nat → Value, a = { tmps := #[.slice LA LN LC, undef, .slice none 0 0, V, .pointer (some ⟨bt, 0, none⟩), (u 5), .pointer (some ⟨b, 0, none⟩), (u 7), (u 8), (u 9), (u 10), (u 11), (u 12), (u 13), (u 14), (u 15), (u 16), (u 17), (u 18), (u 19), (u 20), (u 21), (u 22), (u 23), (u 24), (u 25), (u 26), (u 27), (u 28), (u 29), (u 30), (u 31), (u 32), (u 33), (u 34), (u 35), (u 36), (u 37), (u 38), (u 39), (u 40), (u 41), (u 42), (u 43), (u 44), (u 45), (u 46), (u 47), (u 48), (u 49), (u 50), (u 51), (u 52), (u 53), (u 54), (u 55), (u 56), (u 57), (u 58), (u 59), (u 60), (u 61), (u 62), (u 63), (u 64), (u 65), (u 66), (u 67), (u 68), (u 69), (u 70), (u 71), (u 72), (u 73), (u 74), (u 75), (u 76), (u 77), (u 78), (u 79), (u 80), (u 81)], defers := [] }
theorem frK_intro {LA : Option Addr} {LN LC b bt : Nat} {V : Value} (u5 u7 u8 u9 u10 u11 u12 u13 u14 u15 u16 u17 u18 u19 u20 u21 u22 u23 u24 u25 u26 u27 u28 u29 u30 u31 u32 u33 u34 u35 u36 u37 u38 u39 u40 u41 u42 u43 u44 u45 u46 u47 u48 u49 u50 u51 u52 u53 u54 u55 u56 u57 u58 u59 u60 u61 u62 u63 u64 u65 u66 u67 u68 u69 u70 u71 u72 u73 u74 u75 u76 u77 u78 u79 u80 u81 : Value) : FrK LA LN LC b bt V { tmps := #[.slice LA LN LC, undef, .slice none 0 0, V, .pointer (some ⟨bt, 0, none⟩), u5, .pointer (some ⟨b, 0, none⟩), u7, u8, u9, u10, u11, u12, u13, u14, u15, u16, u17, u18, u19, u20, u21, u22, u23, u24, u25, u26, u27, u28, u29, u30, u31, u32, u33, u34, u35, u36, u37, u38, u39, u40, u41, u42, u43, u44, u45, u46, u47, u48, u49, u50, u51, u52, u53, u54, u55, u56, u57, u58, u59, u60, u61, u62, u63, u64, u65, u66, u67, u68, u69, u70, u71, u72, u73, u74, u75, u76, u77, u78, u79, u80, u81], defers := [] } := ⟨fun k => (#[undef, undef, undef, undef, undef, u5, undef, u7, u8, u9, u10, u11, u12, u13, u14, u15, u16, u17, u18, u19, u20, u21, u22, u23, u24, u25, u26, u27, u28, u29, u30, u31, u32, u33, u34, u35, u36, u37, u38, u39, u40, u41, u42, u43, u44, u45, u46, u47, u48, u49, u50, u51, u52, u53, u54, u55, u56, u57, u58, u59, u60, u61, u62, u63, u64, u65, u66, u67, u68, u69, u70, u71, u72, u73, u74, u75, u76, u77, u78, u79, u80, u81] : Array Value).getD k undef, rfl⟩
/-- what is known at each label: there are tokens ahead of what is ahead, and all of them are T -/
structure Kn (w W : World) (b bt B : Nat) (R : List Int) (V : Value) (ts : List (Tok × Value)) (tc : Array Value) (a : Act) (LA : Option Addr) (LN LC : Nat) : Prop where
  fr : FrK LA LN LC b bt V a
  tk : Tk w W b bt B R V ts tc
  sz : tc.size = 5
  le : ts.length + R.length ≤ 16777216
theorem arr5 {tc : Array Value} (h : tc.size = 5) : ∃ x0 x1 x2 x3 x4, tc = #[x0, x1, x2, x3, x4] := by
  obtain ⟨l⟩ := tc
  match l, h with
  | [x0, x1, x2, x3, x4], _ => exact ⟨x0, x1, x2, x3, x4, rfl⟩
def KT (w : World) (bt : Nat) (T : List Tok) (LA : Option Addr) (LN LC : Nat) : Nat → Nat → Act → World → Prop
  | 4, n, a, W => ∃ b B R V ts tc, Kn w W b bt B R V ts tc a LA LN LC ∧ n = 10 * R.length + 5 ∧ Hid (ts.map (·.1) ++ tok R = T)
  | 0, n, a, W => ∃ b B r t V ts tc, Kn w W b bt B (r :: t) V ts tc a LA LN LC ∧ n = 10 * (t.length + 1) + 1 ∧ Hid (begins (r :: t) = true) ∧ Hid (headLetter t = true) ∧ Hid (ts.map (·.1) ++ tok (r :: t) = T)
  | 1, n, a, W => ∃ b B r t V ts tc, Kn w W b bt B (r :: t) V ts tc a LA LN LC ∧ n = 10 * (t.length + 1) + 1 ∧ Hid (begins (r :: t) = true) ∧ Hid (headLetter t = false) ∧ Hid (t.head? = some 47 ∧ headLetter (t.drop 1) = true) ∧ Hid (ts.map (·.1) ++ tok (r :: t) = T)
  | 2, n, a, W => ∃ b B r t V ts tc, Kn w W b bt B (r :: t) V ts tc a LA LN LC ∧ n = 10 * (t.length + 1) + 1 ∧ Hid (ts.map (·.1) ++ tok (behind [45, 45, 62] ((r :: t).drop 4)) = T)
  | 3, n, a, W => ∃ b B r t V ts tc, Kn w W b bt B (r :: t) V ts tc a LA LN LC ∧ n = 10 * (t.length + 1) + 1 ∧ Hid (ts.map (·.1) ++ tok (behind [62] (r :: t)) = T)
  | 5, n, a, W => ∃ b B R V ts nm x0 x2 x3 x4, Kn w W b bt B R V ts #[x0, str nm, x2, x3, x4] a LA LN LC ∧ n = 10 * R.length + 7 ∧ (nm = sStyle ∨ nm = sScript) ∧ Hid (ts.map (·.1) ++ ((if (Fk.raw nm R).1 = [] then [] else [⟨1, [], Fu.encB (Fk.raw nm R).1, [], false⟩]) ++ tok (Fk.raw nm R).2) = T)
  | _, _, _, _ => False
theorem KT.only {w : World} {bt : Nat} {T : List Tok} {LA : Option Addr} {LN LC : Nat} : ∀ l n a W, KT w bt T LA LN LC l n a W → l < 6
  | 0, _, _, _, _ => by omega
  | 1, _, _, _, _ => by omega
  | 2, _, _, _, _ => by omega
  | 3, _, _, _, _ => by omega
  | 4, _, _, _, _ => by omega
  | 5, _, _, _, _ => by omega
  | _ + 6, _, _, _, h => h.elim
set_option maxHeartbeats 8000000 in
set_option maxRecDepth 100000 in
theorem tokens_any (LA : Option Addr) (LN LC : Nat) (xs : List Int) (hn : xs.length = LN) {w : World} (hr : Row w .i32 LA xs) (hx : LN ≤ 16777216) (hs : ∀ x ∈ xs, -2147483648 ≤ x ∧ x ≤ 2147483647) (he : Env w) :
    Calls Tryd.prog 22 #[.slice LA LN LC] w fun e w' => ∃ V ts, e = .returned V ∧ TokRows w.heap.size w' V ts ∧ ts.map (·.1) = tok xs ∧ ts.length ≤ 16777216 ∧ Below w.heap.size w w' := by
  obtain ⟨T, hT⟩ : ∃ T, tok xs = T := ⟨_, rfl⟩
  rw [hT]
  have HTT := Lib.hid hT
  have HE := Lib.hid (fun W (hb : Below w.heap.size w W) => he.below hb he.sz)
  have hw4 := he.sz
  clear hT he
  go_enter Tryd.func22, Tryd.ntmps22
  go_wp2
  refine wp_scope_6 4 _ (KT w w.heap.size T LA LN LC) rfl rfl rfl rfl rfl rfl rfl KT.only ?_ ?_ ?_ ?_ ?_ ?_ ?_
  · intro henter
    have HEN := Lib.hid henter
    clear henter
    have HNW := Lib.hid (fun o => new_cur LA LN LC xs hn (w := w.alloc o) (hr.below ((Below.refl _ w).alloc (Nat.le_refl _) o) (Nat.le_refl _)) hx hs (by simp; omega))
    have hxl : xs.length ≤ 16777216 := by omega
    clear hr hn hs
    go_wp2_with (go_at_call 38; refine (HNW.out _).mono ?_; rintro e w1 ⟨b, rfl, h1, h2, h3⟩)
    refine wp_label ?_
    rename_i K hK
    refine hK _ _ ?_
    have hz := h3.size
    have hz2 : w.heap.size + 1 ≤ w1.heap.size := by simpa using hz
    have hz3 : w.heap.size + 1 ≤ b := by simpa using h2
    refine HEN.out (10 * xs.length + 5) _ _ ⟨b, w1.heap.size, xs, .slice none 0 0, [], _, ⟨(frK_intro ..), ⟨h1, ((Below.refl _ w).alloc (Nat.le_refl _) _).trans (h3.mono (by simp)), bk_below (Bk.new w 44 #[.int .i64 0, .string ⟨#[]⟩, .string ⟨#[]⟩, .slice none 0 0, .bool false]) h3, ⟨World.ownsRow_nil _ _ _ _, by simp, List.Pairwise.nil⟩, Nat.le_refl _, by omega, Nat.le_refl _, by omega, by omega⟩, rfl, by simp; omega⟩, rfl, Lib.hid (by simpa using HTT.out)⟩
  · rintro n a W ⟨b, B, r, t, V, ts, tc, ⟨⟨u, rfl⟩, tk, hsz, hle⟩, rfl, hbg, hhl, hT⟩ J' hJ'
    obtain ⟨A, c, rfl, _, _⟩ := own_slice tk.rows.row
    obtain ⟨x0, x1, x2, x3, x4, rfl⟩ := arr5 hsz
    obtain ⟨i0, hi0, hz0, hs0, hb0⟩ := info_parts tokInfo
    have HI := Lib.hid hi0
    have HZ := Lib.hid hz0
    have HS := Lib.hid hs0
    have HBY := Lib.hid hb0
    clear hi0 hz0 hs0 hb0
    have HK := Lib.hid tk
    have HGO := Lib.hid (go_over tk.at_ tk.hB.2.2.1 1 (by omega))
    have hl2 : ts.length + (t.length + 1) ≤ 16777216 := by simpa using hle
    clear tk hle
    obtain ⟨nm, hnm⟩ : ∃ nm, Fk.small (t.takeWhile inName) = nm := ⟨_, rfl⟩
    have HNM := Lib.hid hnm
    rcases hG : attrs (t.dropWhile inName) false [] with _ | ⟨al, cl, rest⟩
    · have htag : tagAt t = none := by unfold tagAt; rw [hG]
      have hTT := hT.out
      rw [tok_open_none hbg.out hhl.out htag] at hTT
      have HTN := Lib.hid hTT
      have HG := Lib.hid hG
      clear hG htag hTT hnm
      go_wp2_with (first
        | (go_at_call 41; refine (HGO.out).mono ?_; rintro e w1 ⟨rfl, h1, g1⟩; have HK1 := Lib.hid (HK.out.step h1 g1); clear h1 g1)
        | (go_at_call 42; refine (readTag_any HK1.out.at_ HK1.out.hB.2.2.1 (HE.out _ HK1.out.bl)).mono ?_; rintro e w2 ⟨h2, g2⟩; rw [show (r :: t).drop 1 = t from rfl, HG.out] at h2; obtain ⟨rfl, h2⟩ := h2; have HK2 := Lib.hid (HK1.out.step h2 g2); have HK3 := Lib.hid (HK2.out.set5 (.int .i64 0) (str []) (str []) (.slice none 0 0) (.bool false)); clear h2 g2; dsimp only [str]; have c0 : w2.cell? ⟨w.heap.size, 0, none⟩ = some x0 := HK2.out.tb.cell 0; have f0 := HK2.out.tb.frozen 0; have c1 : w2.cell? ⟨w.heap.size, 1, none⟩ = some x1 := HK2.out.tb.cell 1; have f1 := HK2.out.tb.frozen 1; have c2 : w2.cell? ⟨w.heap.size, 2, none⟩ = some x2 := HK2.out.tb.cell 2; have f2 := HK2.out.tb.frozen 2; have c3 : w2.cell? ⟨w.heap.size, 3, none⟩ = some x3 := HK2.out.tb.cell 3; have f3 := HK2.out.tb.frozen 3; have c4 : w2.cell? ⟨w.heap.size, 4, none⟩ = some x4 := HK2.out.tb.cell 4; have f4 := HK2.out.tb.frozen 4))
      go_step3
      exact hJ' 4 5 _ _ (by omega) ⟨b, B, [], _, ts, _, ⟨(frK_intro ..), HK3.out, rfl, by simp; omega⟩, rfl, Lib.hid (by rw [tok_nil]; exact HTN.out)⟩
    · have htag : tagAt t = some (nm, al, cl, rest) := by unfold tagAt; rw [hG, hnm]
      have hrl := tagAt_le htag
      have HG := Lib.hid hG
      have HTAG := Lib.hid htag
      have hcase : ((nm == [115, 116, 121, 108, 101]) = true) ∨ ((nm == [115, 116, 121, 108, 101]) = false ∧ (nm == [115, 99, 114, 105, 112, 116]) = true) ∨ ((nm == [115, 116, 121, 108, 101]) = false ∧ (nm == [115, 99, 114, 105, 112, 116]) = false) := by
        cases (nm == [115, 116, 121, 108, 101]) <;> cases (nm == [115, 99, 114, 105, 112, 116]) <;> simp
      clear hG hnm htag
      rcases hcase with hs1 | ⟨hs1, hs2⟩ | ⟨hs1, hs2⟩
      · go_upto_region 15 with (first
          | (go_at_call 41; refine (HGO.out).mono ?_; rintro e w1 ⟨rfl, h1, g1⟩; have HK1 := Lib.hid (HK.out.step h1 g1); clear h1 g1)
          | (go_at_call 42; refine (readTag_any HK1.out.at_ HK1.out.hB.2.2.1 (HE.out _ HK1.out.bl)).mono ?_; rintro e w2 ⟨h2, g2⟩; rw [show (r :: t).drop 1 = t from rfl, HG.out] at h2; rw [HNM.out] at h2; obtain ⟨v, rfl, hv, hal, h2⟩ := h2; obtain ⟨VA, vc, rfl, _, _⟩ := own_slice hv; have HK2 := Lib.hid (HK1.out.step h2 g2); have HAP := Lib.hid (apart_new HK1.out.rows hv); have HV5 := Lib.hid (own_set5 (own_mono hv HK1.out.hB.2.2.1) HK2.out.tb (.int .i64 2) (.string ⟨nm.toArray⟩) (.string ⟨#[]⟩) (.slice VA al.length vc) (.bool cl)); have HK3 := Lib.hid (HK2.out.set5 (.int .i64 2) (.string ⟨nm.toArray⟩) (.string ⟨#[]⟩) (.slice VA al.length vc) (.bool cl)); clear h2 g2 hv hal; dsimp only [str]; have c0 : w2.cell? ⟨w.heap.size, 0, none⟩ = some x0 := HK2.out.tb.cell 0; have f0 := HK2.out.tb.frozen 0; have c1 : w2.cell? ⟨w.heap.size, 1, none⟩ = some x1 := HK2.out.tb.cell 1; have f1 := HK2.out.tb.frozen 1; have c2 : w2.cell? ⟨w.heap.size, 2, none⟩ = some x2 := HK2.out.tb.cell 2; have f2 := HK2.out.tb.frozen 2; have c3 : w2.cell? ⟨w.heap.size, 3, none⟩ = some x3 := HK2.out.tb.cell 3; have f3 := HK2.out.tb.frozen 3; have c4 : w2.cell? ⟨w.heap.size, 4, none⟩ = some x4 := HK2.out.tb.cell 4; have f4 := HK2.out.tb.frozen 4))
        generalize hW5 : (((((w2.setCell ⟨w.heap.size, 0, none⟩ (.int .i64 2)).setCell ⟨w.heap.size, 1, none⟩ (.string ⟨nm.toArray⟩)).setCell ⟨w.heap.size, 2, none⟩ (.string ⟨#[]⟩)).setCell ⟨w.heap.size, 3, none⟩ (.slice VA al.length vc)).setCell ⟨w.heap.size, 4, none⟩ (.bool cl)) = w3 at HK3 HV5 ⊢
        clear hW5 c0 c1 c2 c3 c4 f0 f1 f2 f3 f4
        have d0 : w3.cell? ⟨w.heap.size, 0, none⟩ = some (.int .i64 2) := HK3.out.tb.cell 0
        have d1 : w3.cell? ⟨w.heap.size, 1, none⟩ = some (.string ⟨nm.toArray⟩) := HK3.out.tb.cell 1
        have d2 : w3.cell? ⟨w.heap.size, 2, none⟩ = some (.string ⟨#[]⟩) := HK3.out.tb.cell 2
        have d3 : w3.cell? ⟨w.heap.size, 3, none⟩ = some (.slice VA al.length vc) := HK3.out.tb.cell 3
        have d4 : w3.cell? ⟨w.heap.size, 4, none⟩ = some (.bool cl) := HK3.out.tb.cell 4
        go_wp2_with (at_builtin; refine wpList_append_lies _ rfl (.tmp 39) (.tmp 41) 37 rfl B 44 i0 _ 5 72 Tryd.underlying37 HI.out HZ.out HS.out HBY.out rfl (by omega) _ ts.length (tokCells ts) rfl (HK3.out.rows.row.alloc _) _ 1 1 [.int .i64 2, str nm, str [], .slice VA al.length vc, .bool cl] rfl rfl (World.news_of_block (Bk.new _ 44 #[.int .i64 2, str nm, str [], .slice VA al.length vc, .bool cl])) (by simp [str, Value.oneCell']) (by omega) (by simp [maxLen]; omega) (by omega) (by have := HK3.out.hB.2.2.1; simp; omega) _ rfl ?_; intro g cap w9 ho hg hat hlt; have HK9 := Lib.hid (HK3.out.add ⟨2, nm, [], al, cl⟩ _ HV5.out HAP.out ho hg); clear ho hg hat hlt; have n1 : w9.cell? ⟨w.heap.size, 1, none⟩ = some (.string ⟨nm.toArray⟩) := HK9.out.tb.cell 1)
        go_step3
        have hor : nm = sStyle ∨ nm = sScript := .inl (eq_of_beq hs1)
        have hTT := hT.out
        rw [tok_raw hbg.out hhl.out HTAG.out hor] at hTT
        exact hJ' 5 (10 * rest.length + 7) _ _ (by omega) ⟨b, B, rest, _, ts ++ [(⟨2, nm, [], al, cl⟩, _)], nm, _, _, _, _, ⟨(frK_intro ..), HK9.out, rfl, by simp; omega⟩, rfl, hor, Lib.hid (by rw [← hTT]; simp)⟩
      · go_upto_region 15 with (first
          | (go_at_call 41; refine (HGO.out).mono ?_; rintro e w1 ⟨rfl, h1, g1⟩; have HK1 := Lib.hid (HK.out.step h1 g1); clear h1 g1)
          | (go_at_call 42; refine (readTag_any HK1.out.at_ HK1.out.hB.2.2.1 (HE.out _ HK1.out.bl)).mono ?_; rintro e w2 ⟨h2, g2⟩; rw [show (r :: t).drop 1 = t from rfl, HG.out] at h2; rw [HNM.out] at h2; obtain ⟨v, rfl, hv, hal, h2⟩ := h2; obtain ⟨VA, vc, rfl, _, _⟩ := own_slice hv; have HK2 := Lib.hid (HK1.out.step h2 g2); have HAP := Lib.hid (apart_new HK1.out.rows hv); have HV5 := Lib.hid (own_set5 (own_mono hv HK1.out.hB.2.2.1) HK2.out.tb (.int .i64 2) (.string ⟨nm.toArray⟩) (.string ⟨#[]⟩) (.slice VA al.length vc) (.bool cl)); have HK3 := Lib.hid (HK2.out.set5 (.int .i64 2) (.string ⟨nm.toArray⟩) (.string ⟨#[]⟩) (.slice VA al.length vc) (.bool cl)); clear h2 g2 hv hal; dsimp only [str]; have c0 : w2.cell? ⟨w.heap.size, 0, none⟩ = some x0 := HK2.out.tb.cell 0; have f0 := HK2.out.tb.frozen 0; have c1 : w2.cell? ⟨w.heap.size, 1, none⟩ = some x1 := HK2.out.tb.cell 1; have f1 := HK2.out.tb.frozen 1; have c2 : w2.cell? ⟨w.heap.size, 2, none⟩ = some x2 := HK2.out.tb.cell 2; have f2 := HK2.out.tb.frozen 2; have c3 : w2.cell? ⟨w.heap.size, 3, none⟩ = some x3 := HK2.out.tb.cell 3; have f3 := HK2.out.tb.frozen 3; have c4 : w2.cell? ⟨w.heap.size, 4, none⟩ = some x4 := HK2.out.tb.cell 4; have f4 := HK2.out.tb.frozen 4))
        generalize hW5 : (((((w2.setCell ⟨w.heap.size, 0, none⟩ (.int .i64 2)).setCell ⟨w.heap.size, 1, none⟩ (.string ⟨nm.toArray⟩)).setCell ⟨w.heap.size, 2, none⟩ (.string ⟨#[]⟩)).setCell ⟨w.heap.size, 3, none⟩ (.slice VA al.length vc)).setCell ⟨w.heap.size, 4, none⟩ (.bool cl)) = w3 at HK3 HV5 ⊢
        clear hW5 c0 c1 c2 c3 c4 f0 f1 f2 f3 f4
        have d0 : w3.cell? ⟨w.heap.size, 0, none⟩ = some (.int .i64 2) := HK3.out.tb.cell 0
        have d1 : w3.cell? ⟨w.heap.size, 1, none⟩ = some (.string ⟨nm.toArray⟩) := HK3.out.tb.cell 1
        have d2 : w3.cell? ⟨w.heap.size, 2, none⟩ = some (.string ⟨#[]⟩) := HK3.out.tb.cell 2
        have d3 : w3.cell? ⟨w.heap.size, 3, none⟩ = some (.slice VA al.length vc) := HK3.out.tb.cell 3
        have d4 : w3.cell? ⟨w.heap.size, 4, none⟩ = some (.bool cl) := HK3.out.tb.cell 4
        go_wp2_with (at_builtin; refine wpList_append_lies _ rfl (.tmp 39) (.tmp 41) 37 rfl B 44 i0 _ 5 72 Tryd.underlying37 HI.out HZ.out HS.out HBY.out rfl (by omega) _ ts.length (tokCells ts) rfl (HK3.out.rows.row.alloc _) _ 1 1 [.int .i64 2, str nm, str [], .slice VA al.length vc, .bool cl] rfl rfl (World.news_of_block (Bk.new _ 44 #[.int .i64 2, str nm, str [], .slice VA al.length vc, .bool cl])) (by simp [str, Value.oneCell']) (by omega) (by simp [maxLen]; omega) (by omega) (by have := HK3.out.hB.2.2.1; simp; omega) _ rfl ?_; intro g cap w9 ho hg hat hlt; have HK9 := Lib.hid (HK3.out.add ⟨2, nm, [], al, cl⟩ _ HV5.out HAP.out ho hg); clear ho hg hat hlt; have n1 : w9.cell? ⟨w.heap.size, 1, none⟩ = some (.string ⟨nm.toArray⟩) := HK9.out.tb.cell 1)
        go_step3
        have hor : nm = sStyle ∨ nm = sScript := .inr (eq_of_beq hs2)
        have hTT := hT.out
        rw [tok_raw hbg.out hhl.out HTAG.out hor] at hTT
        exact hJ' 5 (10 * rest.length + 7) _ _ (by omega) ⟨b, B, rest, _, ts ++ [(⟨2, nm, [], al, cl⟩, _)], nm, _, _, _, _, ⟨(frK_intro ..), HK9.out, rfl, by simp; omega⟩, rfl, hor, Lib.hid (by rw [← hTT]; simp)⟩
      · go_upto_region 15 with (first
          | (go_at_call 41; refine (HGO.out).mono ?_; rintro e w1 ⟨rfl, h1, g1⟩; have HK1 := Lib.hid (HK.out.step h1 g1); clear h1 g1)
          | (go_at_call 42; refine (readTag_any HK1.out.at_ HK1.out.hB.2.2.1 (HE.out _ HK1.out.bl)).mono ?_; rintro e w2 ⟨h2, g2⟩; rw [show (r :: t).drop 1 = t from rfl, HG.out] at h2; rw [HNM.out] at h2; obtain ⟨v, rfl, hv, hal, h2⟩ := h2; obtain ⟨VA, vc, rfl, _, _⟩ := own_slice hv; have HK2 := Lib.hid (HK1.out.step h2 g2); have HAP := Lib.hid (apart_new HK1.out.rows hv); have HV5 := Lib.hid (own_set5 (own_mono hv HK1.out.hB.2.2.1) HK2.out.tb (.int .i64 2) (.string ⟨nm.toArray⟩) (.string ⟨#[]⟩) (.slice VA al.length vc) (.bool cl)); have HK3 := Lib.hid (HK2.out.set5 (.int .i64 2) (.string ⟨nm.toArray⟩) (.string ⟨#[]⟩) (.slice VA al.length vc) (.bool cl)); clear h2 g2 hv hal; dsimp only [str]; have c0 : w2.cell? ⟨w.heap.size, 0, none⟩ = some x0 := HK2.out.tb.cell 0; have f0 := HK2.out.tb.frozen 0; have c1 : w2.cell? ⟨w.heap.size, 1, none⟩ = some x1 := HK2.out.tb.cell 1; have f1 := HK2.out.tb.frozen 1; have c2 : w2.cell? ⟨w.heap.size, 2, none⟩ = some x2 := HK2.out.tb.cell 2; have f2 := HK2.out.tb.frozen 2; have c3 : w2.cell? ⟨w.heap.size, 3, none⟩ = some x3 := HK2.out.tb.cell 3; have f3 := HK2.out.tb.frozen 3; have c4 : w2.cell? ⟨w.heap.size, 4, none⟩ = some x4 := HK2.out.tb.cell 4; have f4 := HK2.out.tb.frozen 4))
        generalize hW5 : (((((w2.setCell ⟨w.heap.size, 0, none⟩ (.int .i64 2)).setCell ⟨w.heap.size, 1, none⟩ (.string ⟨nm.toArray⟩)).setCell ⟨w.heap.size, 2, none⟩ (.string ⟨#[]⟩)).setCell ⟨w.heap.size, 3, none⟩ (.slice VA al.length vc)).setCell ⟨w.heap.size, 4, none⟩ (.bool cl)) = w3 at HK3 HV5 ⊢
        clear hW5 c0 c1 c2 c3 c4 f0 f1 f2 f3 f4
        have d0 : w3.cell? ⟨w.heap.size, 0, none⟩ = some (.int .i64 2) := HK3.out.tb.cell 0
        have d1 : w3.cell? ⟨w.heap.size, 1, none⟩ = some (.string ⟨nm.toArray⟩) := HK3.out.tb.cell 1
        have d2 : w3.cell? ⟨w.heap.size, 2, none⟩ = some (.string ⟨#[]⟩) := HK3.out.tb.cell 2
        have d3 : w3.cell? ⟨w.heap.size, 3, none⟩ = some (.slice VA al.length vc) := HK3.out.tb.cell 3
        have d4 : w3.cell? ⟨w.heap.size, 4, none⟩ = some (.bool cl) := HK3.out.tb.cell 4
        go_wp2_with (at_builtin; refine wpList_append_lies _ rfl (.tmp 39) (.tmp 41) 37 rfl B 44 i0 _ 5 72 Tryd.underlying37 HI.out HZ.out HS.out HBY.out rfl (by omega) _ ts.length (tokCells ts) rfl (HK3.out.rows.row.alloc _) _ 1 1 [.int .i64 2, str nm, str [], .slice VA al.length vc, .bool cl] rfl rfl (World.news_of_block (Bk.new _ 44 #[.int .i64 2, str nm, str [], .slice VA al.length vc, .bool cl])) (by simp [str, Value.oneCell']) (by omega) (by simp [maxLen]; omega) (by omega) (by have := HK3.out.hB.2.2.1; simp; omega) _ rfl ?_; intro g cap w9 ho hg hat hlt; have HK9 := Lib.hid (HK3.out.add ⟨2, nm, [], al, cl⟩ _ HV5.out HAP.out ho hg); clear ho hg hat hlt; have n1 : w9.cell? ⟨w.heap.size, 1, none⟩ = some (.string ⟨nm.toArray⟩) := HK9.out.tb.cell 1)
        go_step3
        have hnor : ¬ (nm = sStyle ∨ nm = sScript) := by
          rintro (h | h)
          · rw [h] at hs1; exact absurd hs1 (by decide)
          · rw [h] at hs2; exact absurd hs2 (by decide)
        have hTT := hT.out
        rw [tok_open hbg.out hhl.out HTAG.out hnor] at hTT
        exact hJ' 4 (10 * rest.length + 5) _ _ (by omega) ⟨b, B, rest, _, ts ++ [(⟨2, nm, [], al, cl⟩, _)], _, ⟨(frK_intro ..), HK9.out, rfl, by simp; omega⟩, rfl, Lib.hid (by rw [← hTT]; simp)⟩
  · rintro n a W ⟨b, B, r, t, V, ts, tc, ⟨⟨u, rfl⟩, tk, hsz, hle⟩, rfl, hbg, hhl, h47, hT⟩ J' hJ'
    obtain ⟨A, c, rfl, _, _⟩ := own_slice tk.rows.row
    obtain ⟨x0, x1, x2, x3, x4, rfl⟩ := arr5 hsz
    obtain ⟨i0, hi0, hz0, hs0, hb0⟩ := info_parts tokInfo
    have HI := Lib.hid hi0
    have HZ := Lib.hid hz0
    have HS := Lib.hid hs0
    have HBY := Lib.hid hb0
    clear hi0 hz0 hs0 hb0
    have HK := Lib.hid tk
    have HGO := Lib.hid (go_over tk.at_ tk.hB.2.2.1 2 (by omega))
    have hl2 : ts.length + (t.length + 1) ≤ 16777216 := by simpa using hle
    clear tk hle
    obtain ⟨nm, hnm⟩ : ∃ nm, Fk.small ((t.drop 1).takeWhile inName) = nm := ⟨_, rfl⟩
    have HNM := Lib.hid hnm
    rcases hG : attrs ((t.drop 1).dropWhile inName) false [] with _ | ⟨al, cl, rest⟩
    · have htag : tagAt (t.drop 1) = none := by unfold tagAt; rw [hG]
      have hTT := hT.out
      rw [tok_close_none hbg.out hhl.out h47.out htag] at hTT
      have HTN := Lib.hid hTT
      have HG := Lib.hid hG
      clear hG htag hTT hnm
      go_wp2_with (first
        | (go_at_call 41; refine (HGO.out).mono ?_; rintro e w1 ⟨rfl, h1, g1⟩; have HK1 := Lib.hid (HK.out.step h1 g1); clear h1 g1)
        | (go_at_call 42; refine (readTag_any HK1.out.at_ HK1.out.hB.2.2.1 (HE.out _ HK1.out.bl)).mono ?_; rintro e w2 ⟨h2, g2⟩; rw [show (r :: t).drop 2 = t.drop 1 from rfl, HG.out] at h2; obtain ⟨rfl, h2⟩ := h2; have HK2 := Lib.hid (HK1.out.step h2 g2); have HK3 := Lib.hid (HK2.out.set5 (.int .i64 0) (str []) (str []) (.slice none 0 0) (.bool false)); clear h2 g2; dsimp only [str]; have c0 : w2.cell? ⟨w.heap.size, 0, none⟩ = some x0 := HK2.out.tb.cell 0; have f0 := HK2.out.tb.frozen 0; have c1 : w2.cell? ⟨w.heap.size, 1, none⟩ = some x1 := HK2.out.tb.cell 1; have f1 := HK2.out.tb.frozen 1; have c2 : w2.cell? ⟨w.heap.size, 2, none⟩ = some x2 := HK2.out.tb.cell 2; have f2 := HK2.out.tb.frozen 2; have c3 : w2.cell? ⟨w.heap.size, 3, none⟩ = some x3 := HK2.out.tb.cell 3; have f3 := HK2.out.tb.frozen 3; have c4 : w2.cell? ⟨w.heap.size, 4, none⟩ = some x4 := HK2.out.tb.cell 4; have f4 := HK2.out.tb.frozen 4))
      go_step3
      exact hJ' 4 5 _ _ (by omega) ⟨b, B, [], _, ts, _, ⟨(frK_intro ..), HK3.out, rfl, by simp; omega⟩, rfl, Lib.hid (by rw [tok_nil]; exact HTN.out)⟩
    · have htag : tagAt (t.drop 1) = some (nm, al, cl, rest) := by unfold tagAt; rw [hG, hnm]
      have hrl := tagAt_le htag
      rw [List.length_drop] at hrl
      have HG := Lib.hid hG
      have hTT := hT.out
      rw [tok_close hbg.out hhl.out h47.out htag] at hTT
      have HTN := Lib.hid hTT
      clear hG hnm htag hTT
      go_upto_region 23 with (first
        | (go_at_call 41; refine (HGO.out).mono ?_; rintro e w1 ⟨rfl, h1, g1⟩; have HK1 := Lib.hid (HK.out.step h1 g1); clear h1 g1)
        | (go_at_call 42; refine (readTag_any HK1.out.at_ HK1.out.hB.2.2.1 (HE.out _ HK1.out.bl)).mono ?_; rintro e w2 ⟨h2, g2⟩; rw [show (r :: t).drop 2 = t.drop 1 from rfl, HG.out] at h2; rw [HNM.out] at h2; obtain ⟨v, rfl, hv, hal, h2⟩ := h2; obtain ⟨VA, vc, rfl, _, _⟩ := own_slice hv; have HK2 := Lib.hid (HK1.out.step h2 g2); have HAP := Lib.hid (apart_new HK1.out.rows hv); have HV5 := Lib.hid (own_set5 (own_mono hv HK1.out.hB.2.2.1) HK2.out.tb (.int .i64 2) (.string ⟨nm.toArray⟩) (.string ⟨#[]⟩) (.slice VA al.length vc) (.bool cl)); have HK3 := Lib.hid (HK2.out.set5 (.int .i64 2) (.string ⟨nm.toArray⟩) (.string ⟨#[]⟩) (.slice VA al.length vc) (.bool cl)); clear h2 g2 hv hal; dsimp only [str]; have c0 : w2.cell? ⟨w.heap.size, 0, none⟩ = some x0 := HK2.out.tb.cell 0; have f0 := HK2.out.tb.frozen 0; have c1 : w2.cell? ⟨w.heap.size, 1, none⟩ = some x1 := HK2.out.tb.cell 1; have f1 := HK2.out.tb.frozen 1; have c2 : w2.cell? ⟨w.heap.size, 2, none⟩ = some x2 := HK2.out.tb.cell 2; have f2 := HK2.out.tb.frozen 2; have c3 : w2.cell? ⟨w.heap.size, 3, none⟩ = some x3 := HK2.out.tb.cell 3; have f3 := HK2.out.tb.frozen 3; have c4 : w2.cell? ⟨w.heap.size, 4, none⟩ = some x4 := HK2.out.tb.cell 4; have f4 := HK2.out.tb.frozen 4))
      generalize hW5 : (((((w2.setCell ⟨w.heap.size, 0, none⟩ (.int .i64 2)).setCell ⟨w.heap.size, 1, none⟩ (.string ⟨nm.toArray⟩)).setCell ⟨w.heap.size, 2, none⟩ (.string ⟨#[]⟩)).setCell ⟨w.heap.size, 3, none⟩ (.slice VA al.length vc)).setCell ⟨w.heap.size, 4, none⟩ (.bool cl)) = w3 at HK3 HV5 ⊢
      clear hW5 c0 c1 c2 c3 c4 f0 f1 f2 f3 f4
      have d1 : w3.cell? ⟨w.heap.size, 1, none⟩ = some (.string ⟨nm.toArray⟩) := HK3.out.tb.cell 1
      go_wp2_with (at_builtin; refine wpList_append_lies _ rfl (.tmp 70) (.tmp 74) 37 rfl B 44 i0 _ 5 72 Tryd.underlying37 HI.out HZ.out HS.out HBY.out rfl (by omega) _ ts.length (tokCells ts) rfl (HK3.out.rows.row.alloc _) _ 1 1 [.int .i64 3, str nm, str [], .slice none 0 0, .bool false] rfl rfl (World.news_of_block (Bk.new _ 44 #[.int .i64 3, str nm, str [], .slice none 0 0, .bool false])) (by simp [str, Value.oneCell']) (by omega) (by simp [maxLen]; omega) (by omega) (by have := HK3.out.hB.2.2.1; simp; omega) _ rfl ?_; intro g cap w9 ho hg hat hlt; have HK9 := Lib.hid (HK3.out.add ⟨3, nm, [], [], false⟩ (.slice none 0 0) (World.ownsRow_nil _ _ _ _) apart_none ho hg); clear ho hg hat hlt)
      go_step3
      exact hJ' 4 (10 * rest.length + 5) _ _ (by omega) ⟨b, B, rest, _, ts ++ [(⟨3, nm, [], [], false⟩, _)], _, ⟨(frK_intro ..), HK9.out, rfl, by simp; omega⟩, rfl, Lib.hid (by rw [← HTN.out]; simp)⟩
  · rintro n a W ⟨b, B, r, t, V, ts, tc, ⟨⟨u, rfl⟩, tk, hsz, hle⟩, rfl, hT⟩ J' hJ'
    have HK := Lib.hid tk
    have HGO := Lib.hid (go_over tk.at_ tk.hB.2.2.1 4 (by omega))
    have hl2 : ts.length + (t.length + 1) ≤ 16777216 := by simpa using hle
    have hbl := behind_lt [45, 45, 62] (by simp) ((r :: t).drop 4)
    rw [List.length_drop, List.length_cons] at hbl
    clear tk hle
    go_wp2_with (first
      | (go_at_call 41; refine (HGO.out).mono ?_; rintro e w1 ⟨rfl, h1, g1⟩; have HK1 := Lib.hid (HK.out.step h1 g1); clear h1 g1)
      | (go_at_call 44; refine (go_behind HK1.out.at_ HK1.out.hB.2.2.1 ⟨#[45, 45, 62]⟩ (by decide) (by unfold noZero; decide) (by decide)).mono ?_; rintro e w2 ⟨rfl, h2, g2⟩; rw [show numsOf ⟨#[45, 45, 62]⟩ = [45, 45, 62] from rfl] at h2; have HK2 := Lib.hid (HK1.out.step h2 g2); clear h2 g2))
    go_step3
    exact hJ' 4 (10 * (behind [45, 45, 62] ((r :: t).drop 4)).length + 5) _ _ (by omega) ⟨b, B, _, _, ts, _, ⟨(frK_intro ..), HK2.out, hsz, by omega⟩, rfl, hT⟩
  · rintro n a W ⟨b, B, r, t, V, ts, tc, ⟨⟨u, rfl⟩, tk, hsz, hle⟩, rfl, hT⟩ J' hJ'
    have HK := Lib.hid tk
    have hl2 : ts.length + (t.length + 1) ≤ 16777216 := by simpa using hle
    have hbl := behind_lt [62] (by simp) (r :: t)
    rw [List.length_cons] at hbl
    clear tk hle
    go_wp2_with (go_at_call 44; refine (go_behind HK.out.at_ HK.out.hB.2.2.1 ⟨#[62]⟩ (by decide) (by unfold noZero; decide) (by decide)).mono ?_; rintro e w2 ⟨rfl, h2, g2⟩; rw [show numsOf ⟨#[62]⟩ = [62] from rfl] at h2; have HK2 := Lib.hid (HK.out.step h2 g2); clear h2 g2)
    go_step3
    exact hJ' 4 (10 * (behind [62] (r :: t)).length + 5) _ _ (by omega) ⟨b, B, _, _, ts, _, ⟨(frK_intro ..), HK2.out, hsz, by omega⟩, rfl, hT⟩
  · rintro n a W ⟨b, B, R, V, ts, tc, ⟨⟨u, rfl⟩, tk, hsz, hle⟩, rfl, hT⟩ J' hJ'
    obtain ⟨A, c, rfl, _, _⟩ := own_slice tk.rows.row
    have HK := Lib.hid tk
    have HAH := Lib.hid (ahead_any tk.at_)
    have HKQ := Lib.hid (fun q => tk.step (tk.at_.drewN q) (grown_drewN (World.grownBy.refl _ _) q))
    rcases R with _ | ⟨r, t⟩
    · rw [show kindAt [] = 0 from rfl] at HAH
      clear tk
      go_wp2_with (go_at_call 39; refine (HAH.out).mono ?_; rintro e w1 ⟨rfl, q, rfl⟩)
      rw [jumps_ret]
      go_ret
      have HK1 := HKQ.out q
      exact ⟨_, ts, rfl, ⟨own_mono HK1.rows.row (Nat.le_trans HK1.hB.1 (Nat.le_of_lt HK1.hB.2.1)), fun p hp => own_mono (HK1.rows.each p hp) (Nat.le_trans HK1.hB.1 (Nat.le_of_lt HK1.hB.2.1)), HK1.rows.apart⟩, by have := hT.out; rwa [tok_nil, List.append_nil] at this, by simp at hle; omega, HK1.bl⟩
    · rcases hbg : begins (r :: t) with _ | _
      · rw [kindAt_chars hbg] at HAH
        obtain ⟨i0, hi0, hz0, hs0, hb0⟩ := info_parts tokInfo
        have HI := Lib.hid hi0
        have HZ := Lib.hid hz0
        have HS := Lib.hid hs0
        have HBY := Lib.hid hb0
        clear hi0 hz0 hs0 hb0
        have hch := chars_lt hbg
        have hTT := hT.out
        rw [tok_chars hbg] at hTT
        have HTN := Lib.hid hTT
        have hsl : (⟨(Fu.encB (Fk.chars (r :: t)).1).toArray⟩ : ByteArray).size ≤ 1073741824 := by
          show (Fu.encB (Fk.chars (r :: t)).1).length ≤ _
          have h1 := encB_le (Fk.chars (r :: t)).1
          have h2 := chars_fst (r :: t)
          have h3 := tk.at_.len
          omega
        have HSL := Lib.hid hsl
        have hl2 : ts.length + (t.length + 1) ≤ 16777216 := by simpa using hle
        have hc2 := hch.1
        clear tk hbg hTT hsl hch hle
        go_wp2_with (first
          | (go_at_call 39; refine (HAH.out).mono ?_; rintro e w1 ⟨rfl, q, rfl⟩)
          | (go_at_call 40; refine (chars_any (HKQ.out _).at_ (HKQ.out _).hB.2.2.1).mono ?_; rintro e w2 ⟨rfl, h2, g2⟩; have HK2 := Lib.hid ((HKQ.out _).step h2 g2); clear h2 g2)
          | (go_at_call 16; refine (unescape_any ⟨(Fu.encB (Fk.chars (r :: t)).1).toArray⟩ HSL.out (HE.out _ HK2.out.bl)).mono ?_; rintro e w3 ⟨rfl, h3⟩; have HK3 := Lib.hid (HK2.out.grow h3); clear h3)
          | (at_builtin; refine wpList_append_lies _ rfl (.tmp 23) (.tmp 28) 37 rfl B 44 i0 _ 5 72 Tryd.underlying37 HI.out HZ.out HS.out HBY.out rfl (by omega) _ ts.length (tokCells ts) rfl (HK3.out.rows.row.alloc _) _ 1 1 [.int .i64 1, str [], str (Fe.unesc (Fu.encB (Fk.chars (r :: t)).1)), .slice none 0 0, .bool false] rfl rfl (World.news_of_block (Bk.new _ 44 #[.int .i64 1, str [], str (Fe.unesc (Fu.encB (Fk.chars (r :: t)).1)), .slice none 0 0, .bool false])) (by simp [str, Value.oneCell']) (by omega) (by simp [maxLen]; omega) (by omega) (by have := HK3.out.hB.2.2.1; simp; omega) _ rfl ?_; intro g cap w9 ho hg hat hlt; have HK9 := Lib.hid (HK3.out.add ⟨1, [], Fe.unesc (Fu.encB (Fk.chars (r :: t)).1), [], false⟩ (.slice none 0 0) (World.ownsRow_nil _ _ _ _) apart_none ho hg); clear ho hg hat hlt))
        go_step3
        exact hJ' 4 (10 * (Fk.chars (r :: t)).2.length + 5) _ _ (by simp only [List.length_cons]; omega) ⟨b, B, _, _, ts ++ [(⟨1, [], Fe.unesc (Fu.encB (Fk.chars (r :: t)).1), [], false⟩, _)], tc, ⟨(frK_intro ..), HK9.out, hsz, by simp; omega⟩, rfl, Lib.hid (by rw [← HTN.out]; simp)⟩
      · rcases kindAt_cases hbg with ⟨h1, hk⟩ | ⟨h1, h2, hk⟩ | ⟨h1, h2, h3, hk⟩ | ⟨h1, h2, h3, hk⟩
        · rw [hk] at HAH
          have H1 := Lib.hid h1
          have HBG := Lib.hid hbg
          clear tk hbg h1 hk
          go_wp2_with (go_at_call 39; refine (HAH.out).mono ?_; rintro e w1 ⟨rfl, q, rfl⟩)
          go_step3
          exact hJ' 0 (10 * (t.length + 1) + 1) _ _ (by simp only [List.length_cons]; omega) ⟨b, B, r, t, _, ts, tc, ⟨(frK_intro ..), HKQ.out q, hsz, hle⟩, rfl, HBG, H1, hT⟩
        · rw [hk] at HAH
          have H1 := Lib.hid h1
          have H2 := Lib.hid h2
          have HBG := Lib.hid hbg
          clear tk hbg h1 h2 hk
          go_wp2_with (go_at_call 39; refine (HAH.out).mono ?_; rintro e w1 ⟨rfl, q, rfl⟩)
          go_step3
          exact hJ' 1 (10 * (t.length + 1) + 1) _ _ (by simp only [List.length_cons]; omega) ⟨b, B, r, t, _, ts, tc, ⟨(frK_intro ..), HKQ.out q, hsz, hle⟩, rfl, HBG, H1, H2, hT⟩
        · rw [hk] at HAH
          have hTT := hT.out
          rw [tok_remark hbg h1 h2 h3] at hTT
          have HTN := Lib.hid hTT
          clear tk hbg h1 h2 h3 hk hTT
          go_wp2_with (go_at_call 39; refine (HAH.out).mono ?_; rintro e w1 ⟨rfl, q, rfl⟩)
          go_step3
          exact hJ' 2 (10 * (t.length + 1) + 1) _ _ (by simp only [List.length_cons]; omega) ⟨b, B, r, t, _, ts, tc, ⟨(frK_intro ..), HKQ.out q, hsz, hle⟩, rfl, HTN⟩
        · rw [hk] at HAH
          have hTT := hT.out
          rw [tok_other hbg h1 h2 h3] at hTT
          have HTN := Lib.hid hTT
          clear tk hbg h1 h2 h3 hk hTT
          go_wp2_with (go_at_call 39; refine (HAH.out).mono ?_; rintro e w1 ⟨rfl, q, rfl⟩)
          go_step3
          exact hJ' 3 (10 * (t.length + 1) + 1) _ _ (by simp only [List.length_cons]; omega) ⟨b, B, r, t, _, ts, tc, ⟨(frK_intro ..), HKQ.out q, hsz, hle⟩, rfl, HTN⟩
  · rintro n a W ⟨b, B, R, V, ts, nm, x0, x2, x3, x4, ⟨⟨u, rfl⟩, tk, hsz, hle⟩, rfl, hor, hT⟩ J' hJ'
    obtain ⟨A, c, rfl, _, _⟩ := own_slice tk.rows.row
    obtain ⟨i0, hi0, hz0, hs0, hb0⟩ := info_parts tokInfo
    have HI := Lib.hid hi0
    have HZ := Lib.hid hz0
    have HS := Lib.hid hs0
    have HBY := Lib.hid hb0
    clear hi0 hz0 hs0 hb0
    have HK := Lib.hid tk
    have hnn : nm.length ≤ 1000 ∧ ∀ x ∈ nm, 97 ≤ x.toNat ∧ x.toNat ≤ 122 := by rcases hor with rfl | rfl <;> decide
    have HRW := Lib.hid (raw_any tk.at_ tk.hB.2.2.1 ⟨nm.toArray⟩ hnn.1 hnn.2)
    have n1 : W.cell? ⟨w.heap.size, 1, none⟩ = some (.string ⟨nm.toArray⟩) := tk.tb.cell 1
    have hrl := raw_len nm R
    clear tk hnn hor
    by_cases hx : (Fk.raw nm R).1 = []
    · have hTT := hT.out
      rw [if_pos hx, List.nil_append] at hTT
      have HTN := Lib.hid hTT
      have HX := Lib.hid (show Fu.encB (Fk.raw nm R).1 = [] by rw [hx]; rfl)
      clear hx hTT
      go_wp2_with (go_at_call 43; refine (HRW.out).mono ?_; rintro e w2 ⟨rfl, h2, g2⟩; have HK2 := Lib.hid (HK.out.step h2 g2); rw [show (⟨nm.toArray⟩ : ByteArray).data.toList = nm from rfl, HX.out]; clear h2 g2)
      go_step3
      exact hJ' 4 (10 * (Fk.raw nm R).2.length + 5) _ _ (by omega) ⟨b, B, _, _, ts, _, ⟨(frK_intro ..), HK2.out, hsz, by show ts.length + (Fk.raw nm R).2.length ≤ _; omega⟩, rfl, HTN⟩
    · have hTT := hT.out
      rw [if_neg hx] at hTT
      have HTN := Lib.hid hTT
      have hpos := List.length_pos_iff.2 hx
      obtain ⟨X, hX⟩ : ∃ X, Fu.encB (Fk.raw nm R).1 = X := ⟨_, rfl⟩
      have hXn : X.isEmpty = false := by rw [← hX]; exact List.isEmpty_eq_false_iff.2 (encB_ne hx)
      have HX := Lib.hid hX
      clear hx hTT hX
      go_wp2_with (first
        | (go_at_call 43; refine (HRW.out).mono ?_; rintro e w2 ⟨rfl, h2, g2⟩; have HK2 := Lib.hid (HK.out.step h2 g2); rw [show (⟨nm.toArray⟩ : ByteArray).data.toList = nm from rfl, HX.out]; clear h2 g2)
        | (at_builtin; refine wpList_append_lies _ rfl (.tmp 57) (.tmp 60) 37 rfl B 44 i0 _ 5 72 Tryd.underlying37 HI.out HZ.out HS.out HBY.out rfl (by omega) _ ts.length (tokCells ts) rfl (HK2.out.rows.row.alloc _) _ 1 1 [.int .i64 1, str [], str X, .slice none 0 0, .bool false] rfl rfl (World.news_of_block (Bk.new _ 44 #[.int .i64 1, str [], str X, .slice none 0 0, .bool false])) (by simp [str, Value.oneCell']) (by omega) (by simp [maxLen]; omega) (by omega) (by have := HK2.out.hB.2.2.1; simp; omega) _ rfl ?_; intro g cap w9 ho hg hat hlt; have HK9 := Lib.hid (HK2.out.add ⟨1, [], X, [], false⟩ (.slice none 0 0) (World.ownsRow_nil _ _ _ _) apart_none ho hg); clear ho hg hat hlt))
      go_step3
      exact hJ' 4 (10 * (Fk.raw nm R).2.length + 5) _ _ (by omega) ⟨b, B, _, _, ts ++ [(⟨1, [], X, [], false⟩, _)], _, ⟨(frK_intro ..), HK9.out, hsz, by simp; omega⟩, rfl, Lib.hid (by rw [← HTN.out, HX.out]; simp)⟩
end Go.Proofs.YtnpoipjnnlbnfaaDoor
