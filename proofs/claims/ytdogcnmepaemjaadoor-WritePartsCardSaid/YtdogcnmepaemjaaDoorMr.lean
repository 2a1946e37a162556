/- More words on memory: room that is made and filled place by place; a list appended to an owned one; a string's iterator. No conditions. -/
import Derived.Test.YtdogcnmepaemjaaDoorBook
import Derived.Lib.OthersKept
import Derived.Lib.AppendStr
import Derived.Laws.BytesArg
import Derived.Laws.Cover4
import Derived.WalkKit
namespace Go.Proofs.Fm
set_option linter.unusedVariables false
open Go.RowKit Go.Proofs.Fb

theorem IB.grown {w w' : World} {g : Nat} {t : TypeId} {k : IntKind} {xs : List Int} {row : Option Nat} (h : IB w g t k xs) (hg : w.grownBy w' row) (hne : some g ≠ row) : IB w' g t k xs := (hg.block g h.lt hne).trans h
theorem IB.iter {w : World} {g j pos : Nat} {t : TypeId} {k : IntKind} {xs : List Int} (h : IB w g t k xs) (s : ByteArray) (hne : g ≠ j) : IB (w.iterAt j s pos) g t k xs := (Lib.iterAt_other w j g s pos hne).trans h

/-- 'make([]T, 0, n)' of integers: a block of n zeros, none of them in the list. -/
theorem wpList_make_room {P : Program} (w : World) {ops : Array Oper} {rest : List Oper} {o : Oper} {a : Act} {Q : Exit → Act → World → Prop}
    (hg : o.guard = none) (l c : Operand) (t : TypeId) (hop : o.op = Op.makeSlice t l c)
    (e : TypeId) (k : IntKind) (i : TypeInfo) (h1 : P.underlying t = some (.slice e)) (h2 : P.info? e = some i) (h3 : i.zero = some (.int k 0)) (h4 : i.size = 1)
    (kl kc : IntKind) (C : Int) (n : Nat) (hl : a.eval l = .int kl 0) (hc : a.eval c = .int kc C) (hC : C = (n : Int)) (h5 : i.bytes * n ≤ 281474976710656) (hn : n ≤ 281474976710656)
    (hK : ∀ w', IB w' w.heap.size e k (List.replicate n 0) → Below w.heap.size w w' → wpList P ops Q rest (a.put o.dst (.slice (some ⟨w.heap.size, 0, none⟩) 0 n)) w') :
    wpList P ops Q (o :: rest) a w := by
  refine wpList_plain hg fun K hK' => ?_
  subst hC
  have hb : (i.bytes : Int) * (n : Int) ≤ 281474976710656 := by
    have h' : ((i.bytes * n : Nat) : Int) ≤ 281474976710656 := by omega
    rwa [Int.natCast_mul] at h'
  have hrun := run_make (P := P) w t e i _ h1 h2 h3 kl kc 0 n (by omega) (by omega) hb (by omega)
  have hX : IB (w.alloc (.cells (madeCells (Value.int k 0).cells ((n : Int).toNat * i.size)) e)) w.heap.size e k (List.replicate n 0) := by
    unfold IB
    rw [heap_alloc_new, h4, Nat.mul_one, Int.toNat_natCast]
    have : madeCells (Value.int k 0).cells n = ((List.replicate n (0 : Int)).map (Value.int k)).toArray := by
      apply Array.ext
      · simp [madeCells]
      · intro j hj1 hj2
        simp [madeCells, Value.cells, Nat.mod_one]
    rw [this]
  have hY := hK _ hX ((Below.refl _ _).alloc (Nat.le_refl _) _)
  unfold Oper.wp
  simp [execOp, hop, hl, hc, hrun, Result.andThen]
  exact hK' _ _ hY

theorem set_eq {xs : List Int} {n : Nat} (h : n < xs.length) (v : Int) : xs.take n ++ [v] ++ xs.drop (n + 1) = xs.set n v := by
  rw [List.set_eq_take_append_cons_drop, if_pos h, List.append_assoc]; rfl

/-- 'append(l, x)' where there is room: the place behind the list is written. -/
theorem wpList_append_slot {P : Program} {w : World} {ops : Array Oper} {rest : List Oper} {o : Oper} {a : Act} {Q : Exit → Act → World → Prop} (hgd : o.guard = none) (s x : Operand) (t : TypeId)
    (ho : o.op = .call { callee := .builtin .append, args := #[s, x], argTypes := #[t, t] })
    (e : TypeId) (k : IntKind) (i : TypeInfo) (ht : P.underlying t = some (.slice e)) (hi : P.info? e = some i) (hsize : i.size = 1)
    (g n cap : Nat) (xs : List Int) (hb : IB w g e k xs) (hs : a.eval s = .slice (some ⟨g, 0, none⟩) n cap) (hl : xs.length = cap) (hroom : n < cap)
    (b c : Nat) (v : Int) (hx : a.eval x = .slice (some ⟨b, 0, none⟩) 1 c) (hv : w.cell? ⟨b, 0, none⟩ = some (.int k v))
    (h : ∀ w', IB w' g e k (xs.set n v) → w.grownBy w' (some g) → wpList P ops Q rest (a.put o.dst (.slice (some ⟨g, 0, none⟩) (n + 1) cap)) w') : wpList P ops Q (o :: rest) a w := by
  refine wpList_plain hgd fun K hK => ?_
  have hr := run_append_room (P := P) w t o.type e i ht hi g n cap _ hb ⟨b, 0, none⟩ 1 c [.int k v] (by simp [hsize]) (by
    intro j u hj
    rcases j with _ | j
    · simp only [List.getElem?_cons_zero, Option.some.injEq] at hj
      subst hj
      simpa [Addr.add] using hv
    · simp at hj) (by simp [Value.oneCell']) (by omega) (by simp [hsize, hl]; omega)
  have hw : IB (w.setRow g ((xs.map (Value.int k)).toArray.toList.take (n * i.size) ++ [Value.int k v] ++ (xs.map (Value.int k)).toArray.toList.drop (n * i.size + [Value.int k v].length)).toArray) g e k (xs.set n v) := by
    unfold IB
    rw [setRow_heap w g _ _ e (0, 0) hb, ← set_eq (by omega)]
    simp [hsize]
  have hgr : w.grownBy (w.setRow g ((xs.map (Value.int k)).toArray.toList.take (n * i.size) ++ [Value.int k v] ++ (xs.map (Value.int k)).toArray.toList.drop (n * i.size + [Value.int k v].length)).toArray) (some g) :=
    ⟨rfl, rfl, rfl, by simp, fun j hj hne => setRow_other w g j _ (fun e => hne (by rw [e]))⟩
  have hY := h _ hw hgr
  unfold Oper.wp execOp
  simp only [ho, resolve, invoke, builtin, Sem.run_bind, Sem.run_pure, Result.andThen_ok, List.map_toArray, List.map_cons, List.map_nil, hs, hx, hr]
  exact hK _ _ hY

/-- 'append(own, l...)' of a list of integers, nil and empty ones too. -/
theorem run_append_ints {P : Program} (w : World) (base : Nat) (t ty e : TypeId) (k : IntKind) (i : TypeInfo) (bytes : Nat) (ht : P.underlying t = some (.slice e)) (hi : P.info? e = some i) (hz : i.zero = some (.int k 0))
    (hsize : i.size = 1) (hby : i.bytes = bytes)
    (v : Value) (n : Nat) (xs : List Int) (hown : w.ownsRow base e 1 v n (xs.map (Value.int k)))
    (A : Option Addr) (m c : Nat) (ys : List Int) (hl : ys.length = m) (hr : Row w k A ys) (hA : A = none → c = 0)
    (h63 : n + m ≤ maxLen) (hbytes : (n + m) * bytes ≤ 140737488355328) (hbase : base ≤ w.heap.size) :
    ∃ v' w', (Builtin.append_ #[t, t] ty #[v, .slice A m c]).run P w = .ok v' w' ∧ w'.ownsRow base e 1 v' (n + m) ((xs ++ ys).map (Value.int k)) ∧ w.grownBy w' v.ownBlock ∧ (v'.ownBlock = v.ownBlock ∨ v'.ownBlock = some w.heap.size) := by
  rcases A with _ | ad
  · have hys : ys = [] := by
      by_cases h : ys = []
      · exact h
      · obtain ⟨b, off, e, _⟩ := hr h; cases e
    subst hys
    obtain rfl : m = 0 := by simpa using hl.symm
    obtain rfl := hA rfl
    exact ⟨v, w, run_append_owned_none (P := P) (w := w) base t ty e i 1 ht hi v n _ hown, by simpa using hown, World.grownBy.refl w _, .inl rfl⟩
  · obtain ⟨v', w', r1, r2, r3, _, r5⟩ := run_append_own_at (P := P) w base t ty e i _ 1 bytes ht hi hz hsize hby rfl (by omega) v n _ hown ad m c (ys.map (Value.int k)) (by simp [hl]) (by
      by_cases h : ys = []
      · subst h; simp
      · obtain ⟨ad', e', h'⟩ := hr.src h
        injection e' with e'; subst e'; exact h') (by simp [Value.oneCell']) h63 hbytes hbase
    exact ⟨v', w', r1, by rw [List.map_append]; exact r2, r3, r5⟩
theorem wpList_append_ints {P : Program} {w : World} {ops : Array Oper} {rest : List Oper} {o : Oper} {a : Act} {Q : Exit → Act → World → Prop} (hgd : o.guard = none) (s x : Operand) (t : TypeId)
    (ho : o.op = .call { callee := .builtin .append, args := #[s, x], argTypes := #[t, t] })
    (base : Nat) (e : TypeId) (k : IntKind) (i : TypeInfo) (bytes : Nat) (ht : P.underlying t = some (.slice e)) (hi : P.info? e = some i) (hz : i.zero = some (.int k 0))
    (hsize : i.size = 1) (hby : i.bytes = bytes)
    (v : Value) (n : Nat) (xs : List Int) (hs : a.eval s = v) (hown : w.ownsRow base e 1 v n (xs.map (Value.int k)))
    (A : Option Addr) (m c : Nat) (ys : List Int) (hx : a.eval x = .slice A m c) (hl : ys.length = m) (hr : Row w k A ys) (hA : A = none → c = 0)
    (h63 : n + m ≤ maxLen) (hbytes : (n + m) * bytes ≤ 140737488355328) (hbase : base ≤ w.heap.size)
    (h : ∀ A' c' w', w'.ownsRow base e 1 (.slice A' (n + m) c') (n + m) ((xs ++ ys).map (Value.int k)) → w.grownBy w' v.ownBlock → ((Value.slice A' (n + m) c').ownBlock = v.ownBlock ∨ (Value.slice A' (n + m) c').ownBlock = some w.heap.size) → wpList P ops Q rest (a.put o.dst (.slice A' (n + m) c')) w') :
    wpList P ops Q (o :: rest) a w := by
  refine wpList_plain hgd fun K hK => ?_
  obtain ⟨v', w', r1, r2, r3, r4⟩ := run_append_ints (P := P) w base t o.type e k i bytes ht hi hz hsize hby v n xs hown A m c ys hl hr hA h63 hbytes hbase
  obtain ⟨A', c', hv, _, _⟩ := own_slice r2
  subst hv
  unfold Oper.wp execOp
  simp only [ho, resolve, invoke, builtin, Sem.run_bind, Sem.run_pure, Result.andThen_ok, List.map_toArray, List.map_cons, List.map_nil, hs, hx, r1]
  exact hK _ _ (h A' c' w' r2 r3 r4)
/-- an owned list reads as a list -/
theorem own_row {w : World} {base : Nat} {e : TypeId} {k : IntKind} {A : Option Addr} {n c : Nat} {xs : List Int} (h : w.ownsRow base e 1 (.slice A n c) n (xs.map (Value.int k))) : Row w k A xs := by
  intro hx
  have hl : xs.length = n := by simpa using h.1
  obtain ⟨g, cap, hv, _, _⟩ := h.form (by have := List.length_pos_iff.2 hx; omega)
  injection hv with e1 _ e3
  subst e1
  refine ⟨g, 0, rfl, fun j hj => ?_⟩
  have := h.cells (g := g) rfl j (.int k (xs.getD j 0)) (by simp [List.getElem?_eq_getElem hj])
  rw [Nat.zero_add]
  have hadd : (⟨g, 0, none⟩ : Addr).add j = ⟨g, j, none⟩ := by unfold Addr.add; split <;> simp_all
  rwa [hadd] at this
theorem own_nil {w : World} {base : Nat} {e : TypeId} {n c : Nat} {xs : List Value} (h : w.ownsRow base e 1 (.slice none n c) n xs) : c = 0 := by
  rcases h.2 with ⟨hv, _⟩ | ⟨g, cap, cur, hv, _⟩
  · injection hv
  · injection hv with e; cases e
theorem own_len {w : World} {base : Nat} {e : TypeId} {k : IntKind} {A : Option Addr} {n c : Nat} {xs : List Int} (h : w.ownsRow base e 1 (.slice A n c) n (xs.map (Value.int k))) : xs.length = n := by simpa using h.1
/-- 'T{}' as an owned list without any -/
theorem own_empty {k : IntKind} (w : World) (base : Nat) (e : TypeId) (hb : base ≤ w.heap.size) : (w.alloc (.cells #[] e)).ownsRow base e 1 (.slice (some ⟨w.heap.size, 0, none⟩) 0 0) 0 (([] : List Int).map (Value.int k)) :=
  World.ownsRow_made w #[] 0 hb (by simp [maxLen]) (by simp)

/-- a list of bytes as a text -/
theorem run_text {P : Program} (w : World) (src e : TypeId) (hs : P.underlying src = some (.slice e)) (he : P.underlying e = some (.int .u8)) (A : Option Addr) (n c : Nat) (xs : List Int) (hl : xs.length = n) (hr : Row w .u8 A xs) :
    ∀ dst, P.underlying dst = some .string → (convert src dst (.slice A n c)).run P w = .ok (.string (strOfNums xs)) w := by
  intro dst hd
  rcases A with _ | ad
  · have hys : xs = [] := by
      by_cases h : xs = []
      · exact h
      · obtain ⟨b, off, e, _⟩ := hr h; cases e
    subst hys
    rw [run_convert_bytes_nil w src e hs he n c dst hd]; rfl
  · by_cases h : xs = []
    · subst h
      obtain rfl : n = 0 := by simpa using hl.symm
      rw [run_convert_bytes_string w src dst e _ 0 c hs he hd, run_bytesToString w _ 0 c [] (by simp [loadCells, loadCellsFrom]; first | rfl | skip)]
      rfl
    · obtain ⟨b, off, e', hc⟩ := hr h
      injection e' with e'; subst e'
      exact run_convert_bytes_arg w src e hs he b off n c xs hl (fun i hi => hc i (by omega)) dst hd
/-- a list of runes as a text -/
theorem run_runes {P : Program} (w : World) (src e : TypeId) (hs : P.underlying src = some (.slice e)) (he : P.underlying e = some (.int .i32)) (A : Option Addr) (n c : Nat) (xs : List Int) (hl : xs.length = n) (hr : Row w .i32 A xs) :
    ∀ dst, P.underlying dst = some .string → (convert src dst (.slice A n c)).run P w = .ok (.string (runesBytes xs)) w := by
  intro dst hd
  rcases A with _ | ad
  · have hys : xs = [] := by
      by_cases h : xs = []
      · exact h
      · obtain ⟨b, off, e, _⟩ := hr h; cases e
    subst hys
    rw [run_convert_runes_nil w src dst e n c hs he hd]; rfl
  · by_cases h : xs = []
    · subst h
      obtain rfl : n = 0 := by simpa using hl.symm
      have := run_convert_runes (P := P) w src dst e ad 0 c [] (by simp) hs he hd (by simp)
      simpa using this
    · obtain ⟨ad', e', hc⟩ := hr.src h
      injection e' with e'; subst e'
      have := run_convert_runes (P := P) w src dst e ad n c xs (by omega) hs he hd (fun j hj => hc j _ (by simp [List.getElem?_eq_getElem hj]))
      rwa [List.take_of_length_le (by omega)] at this
end Go.Proofs.Fm
