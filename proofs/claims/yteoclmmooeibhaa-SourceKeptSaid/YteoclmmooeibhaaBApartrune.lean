/- Book's Apart, at lists of rune. -/
import Derived.Test.YteoclmmooeibhaaBStaysrune
namespace Go.Proofs.Yteoclmmooeibhaa.B_rune
set_option linter.unusedVariables false
open Go.Proofs.Yteoclmmooeibhaa Go.RowKit Go.Proofs.Fm Go.Proofs.Fb

/-- the slice of a kept list, all its room, and where it lies -/
theorem todo_at {w0 w : World} {base bk : Nat} {v1 v2 : Value} {vs : List Kept} {held : Int} {M : Nat → Int} {i : Nat} (h : Marking w0 w base bk 21 22 44 .i32 v1 v2 vs held M i) (hi : i < vs.length) :
    ∃ A n c xs, vs[i]? = some (.slice A n c, xs) ∧ (vals vs)[i]? = some (.slice A n c) ∧ n ≤ c ∧ (0 < c → ∃ g cs, A = some ⟨g, 0, none⟩ ∧ base ≤ g ∧ Bk w g 21 cs ∧ cs.size = c) := by
  have hx : vs[i]? = some vs[i] := List.getElem?_eq_getElem hi
  have ho := h.todo i (Nat.le_refl _) _ hx
  obtain ⟨A, c, hv, hnc, _⟩ := own_slice ho
  refine ⟨A, _, c, vs[i].2, by rw [hx, ← hv], by simp [vals, hi, hv], hnc, fun hc => ?_⟩
  rcases ho.2 with ⟨h1, h2⟩ | ⟨g, cap, cur, h1, h2, h3, h4, h5, h6, _⟩
  · rw [hv] at h1; injection h1 with _ _ h1; omega
  · rw [hv] at h1
    injection h1 with e1 _ e3
    subst e1 e3
    exact ⟨g, cur, rfl, h2, h3, by omega⟩

theorem done_at {w0 w : World} {base bk : Nat} {v1 v2 : Value} {vs : List Kept} {held : Int} {M : Nat → Int} (h : Marking w0 w base bk 21 22 44 .i32 v1 v2 vs held M vs.length) {i : Nat} (hi : i < vs.length) (hcap : ∀ A n c xs, (Value.slice A n c, xs) ∈ vs → c ≤ 17592186044416) :
    ∃ A n c, (vals vs)[i]? = some (.slice A n c) ∧ c ≤ 17592186044416 ∧ (0 < c → ∃ g, A = some ⟨g, 0, none⟩ ∧ Bk w g 21 (Array.replicate c (.int .i32 (M i)))) := by
  obtain ⟨A, n, c, hv, hm⟩ := h.done i hi _ (List.getElem?_eq_getElem hi)
  refine ⟨A, n, c, by simp [vals, hi, hv], hcap A n c vs[i].2 ?_, hm⟩
  rw [← hv]; exact List.getElem_mem hi
theorem quiet_mark {P : Program} {f : FuncId} {args : Array Value} {w : World} {n : Nat} {v : Value} (h : Calls P f args (w.drewN n) fun e w' => e = .returned v ∧ w.drewN n = w') : Calls P f args (w.drewN n) fun e w'' => e = .returned v ∧ ∃ m, w'' = w.drewN m :=
  h.mono fun _ _ ⟨he, hm⟩ => ⟨he, n, hm.symm⟩

theorem quiet_mark2 {P : Program} {f : FuncId} {args : Array Value} {w : World} {a n : Nat} {v : Value} (h : Calls P f args (w.drewN (a + n)) fun e w' => e = .returned v ∧ w.drewN (a + n) = w') : Calls P f args (w.drewN (a + n)) fun e w'' => e = .returned v ∧ ∃ m, w'' = w.drewN (a + m) :=
  h.mono fun _ _ ⟨he, hm⟩ => ⟨he, n, hm.symm⟩

/-- what Apart leaves -/
def ApartPost (w : World) (base : Nat) (e : Ending) (w' : World) : Prop := e = .returned (.bool true) ∧ Below base w w'

set_option maxRecDepth 100000 in
set_option maxHeartbeats 8000000 in
/-- (*Book).Apart of a book whose lists are as they were and lie apart: true. -/
theorem apart_any (markv : Nat → Int) (hmark : ∀ (i j : Nat) (w : World), i ≤ 4000 → j ≤ 17592186044416 → Calls Try.prog 21 #[.int .i64 i, .int .i64 j] w fun e w' => e = .returned (.int .i32 (markv i)) ∧ w = w') (w : World) (base bk : Nat) (v1 v2 : Value) (vs us : List Kept) (held : Int) (hB : BookAt w base bk 21 22 44 .i32 v1 v2 vs us held) (hl : vs.length ≤ 4000) (hx : ∀ p ∈ vs, p.2.length ≤ 17592186044416) (hbase : base ≤ w.heap.size)
    (hcap : ∀ A n c xs, (Value.slice A n c, xs) ∈ vs → c ≤ 17592186044416) :
    Calls Try.prog 20 #[.pointer (some ⟨bk, 0, none⟩), .func (.func 21) #[] #[]] w (ApartPost w base) := by
  have HB := Lib.hid hB
  have HMK := Lib.hid hmark
  clear hmark
  have hst := stays_any w base bk v1 v2 vs us held hB hl hx
  have HST := Lib.hid hst
  clear hst hB hx
  go_enter Try.func20, Try.ntmps20
  go_wp2_with (go_at_call 24; refine (HST.out).mono ?_; rintro e w1 ⟨rfl, hB1, hb1⟩)
  have hap := hB1.apart
  have hm := Lib.hid (Marking.start hB1 hb1 markv)
  have HAP := Lib.hid hap
  clear hap hB1 HST

  go_loopw [5] (fun i wr => ∃ (j : Nat), j ≤ vs.length ∧ i = .int .i64 j ∧ Marking w wr base bk 21 22 44 .i32 v1 v2 vs held markv j) (fun i _ => vs.length - (intOf i).toNat)
  case atStart => exact ⟨0, Nat.zero_le _, rfl, hm.out⟩
  case round =>
    obtain ⟨j, hj, rfl, hR⟩ := hrel
    have c0 := hR.blk.cell 0
    simp at c0
    by_cases hlt : j < vs.length
    · obtain ⟨A, n, c, xs, h1, h2, hnc, h3⟩ := todo_at hR hlt
      obtain ⟨g1, m1, rfl, _, hm1, hg1⟩ := own_at hR.o1 (by omega)
      have k1 := hg1 j _ h2
      have i1 : (j : Int) < (vs.length : Int) := by omega
      have i0 : (0 : Int) ≤ (j : Int) := by omega
      have hcc : c ≤ 17592186044416 := hcap _ _ _ _ (List.mem_of_getElem? h1)
      have hz : base ≤ wr.heap.size := Nat.le_trans hbase hR.bel.size
      have i2 : (0 : Int) ≤ (c : Int) := by omega
      have HR := Lib.hid hR
      have H1 := Lib.hid h1
      have H3 := Lib.hid h3
      clear hg1 h1 h2 h3 hR hm
      go_wp2
      go_quiet (fail)
      go_wp2
      have HR2 := Lib.hid (HR.out.drewN nq)
      obtain ⟨W, hW⟩ : ∃ W, wr.drewN nq = W := ⟨_, rfl⟩
      rw [hW] at HR2 ⊢
      have hz2 : base ≤ W.heap.size := by rw [← hW]; exact hz
      have HC : Hid (0 < c → ∃ g cs, A = some ⟨g, 0, none⟩ ∧ base ≤ g ∧ Bk W g 21 cs ∧ cs.size = c) := by
        rw [← hW]; exact H3.out
      clear hW HR H3 c0 k1
      rcases Nat.eq_zero_or_pos c with hc0 | hc0
      · subst hc0
        refine wp_loop_rounds 1 ?_
        rw [rounds_succ]
        go_wp2
        go_roundw
        case rel => exact ⟨j + 1, by omega, by go_num, HR2.out.skip H1.out⟩
        case measure => simp [intOf]; omega
      · obtain ⟨g, cs, rfl, hgb, hbg, hcs⟩ := HC.out hc0
        go_loopw [7] (fun i wq => ∃ (t : Nat) (cs' : Array Value), t ≤ c ∧ i = .int .i64 t ∧ Bk wq g 21 cs' ∧ Upto cs' c t (.int .i32 (markv j)) ∧ W.grownBy wq (some g)) (fun i _ => c - (intOf i).toNat)
        case atStart => exact ⟨0, cs, Nat.zero_le _, rfl, hbg, ⟨hcs, fun t ht => by omega⟩, World.grownBy.refl W _⟩
        case round =>
          obtain ⟨t, cs', ht, rfl, hb', hu, hgr⟩ := hrel
          by_cases htl : t < c
          · have g1' := hb'.cell t
            have g2' := hb'.frozen t
            have htc : t < cs'.size := by have := hu.1; omega
            rw [Array.getElem?_eq_getElem htc] at g1'
            have HB' := Lib.hid (hb'.set_ t (.int .i32 (markv j)))
            have HU := Lib.hid (hu.step htl)
            have HG := Lib.hid (grown_set hgr t (.int .i32 (markv j)))
            clear hb' hu hgr
            generalize cs'[t] = uv at g1'
            have i3 : (t : Int) < (c : Int) := by omega
            have hj4 : j ≤ 4000 := by omega
            have ht4 : t ≤ 17592186044416 := by omega
            go_wp2_with (go_at_call 21; refine (HMK.out _ _ _ hj4 ht4).mono ?_; rintro e w' ⟨rfl, rfl⟩)
            go_roundw
            case rel => exact ⟨t + 1, _, by omega, by go_num, HB'.out, HU.out, HG.out⟩
            case measure => simp [intOf]; omega
          · have hte : t = c := by omega
            subst hte
            have hN : Hid (Marking w wr base bk 21 22 44 .i32 (.slice (some ⟨g1, 0, none⟩) vs.length m1) v2 vs held markv (j + 1)) :=
              HR2.out.next HAP.out H1.out hgr hgb hz2 (by rw [hu.all] at hb'; exact hb') ⟨cs, hbg⟩ (by decide) (by decide)
            clear hb' hu hgr
            go_wp2
            go_roundw
            case rel => exact ⟨j + 1, by omega, by go_num, hN.out⟩
            case measure => simp [intOf]; omega
    · have hje : j = vs.length := by omega
      subst hje
      clear hm
      obtain ⟨A1, m1, rfl, _, _⟩ := own_slice hR.o1
      have HR := Lib.hid hR
      clear hR
      go_wp2
      obtain ⟨wo, hwo⟩ : ∃ wo, wr = wo := ⟨_, rfl⟩
      rw [hwo] at HR c0 ⊢
      clear hwo
      go_loopw [8] (fun i wq => ∃ (j q : Nat), j ≤ vs.length ∧ i = .int .i64 j ∧ wq = wo.drewN q) (fun i _ => vs.length - (intOf i).toNat)
      case atStart => exact ⟨0, 0, Nat.zero_le _, rfl, rfl⟩
      case round =>
        obtain ⟨j, q, hj, rfl, rfl⟩ := hrel
        by_cases hlt : j < vs.length
        · obtain ⟨A, n, c, h2, hcc, h3⟩ := done_at HR.out hlt hcap
          obtain ⟨g1, m1, he, _, hm1, hg1⟩ := own_at HR.out.o1 (by omega)
          injection he with e1 e2 e3
          subst e1 e3
          clear e2
          have k1 := hg1 j _ h2
          have i1 : (j : Int) < (vs.length : Int) := by omega
          have i0 : (0 : Int) ≤ (j : Int) := by omega
          have i2 : (0 : Int) ≤ (c : Int) := by omega
          have H3 := Lib.hid h3
          clear hg1 h2 h3
          go_wp2
          go_quiet (fail)
          go_wp2
          go_loopw [10] (fun i wq => ∃ (t q : Nat), t ≤ c ∧ i = .int .i64 t ∧ wq = wo.drewN q) (fun i _ => c - (intOf i).toNat)
          case atStart => exact ⟨0, q + nq, Nat.zero_le _, rfl, by first | rfl | exact World.drewN_drewN _ _ _⟩
          case round =>
            obtain ⟨t, q2, ht, rfl, rfl⟩ := hrel
            by_cases htl : t < c
            · obtain ⟨g, rfl, hbg⟩ := H3.out (by omega)
              have g1' := hbg.cell t
              rw [Array.getElem?_replicate, if_pos htl] at g1'
              have i3 : (t : Int) < (c : Int) := by omega
              have i4 : (0 : Int) ≤ (t : Int) := by omega
              have hj4 : j ≤ 4000 := by omega
              have ht4 : t ≤ 17592186044416 := by omega
              clear hbg
              go_wp2
              go_quiet ((go_at_call 21; first | exact quiet_mark2 (HMK.out _ _ _ hj4 ht4) | exact quiet_mark (HMK.out _ _ _ hj4 ht4)))
              go_wp2
              go_roundw
              case rel => exact ⟨t + 1, q2 + nq, by omega, by go_num, by first | rfl | exact World.drewN_drewN _ _ _⟩
              case measure => simp [intOf]; omega
            · have hte : t = c := by omega
              subst hte
              go_wp2
              go_roundw
              case rel => exact ⟨j + 1, q2, by omega, by go_num, rfl⟩
              case measure => simp [intOf]; omega
        · have hje : j = vs.length := by omega
          subst hje
          have d1 := HR.out.blk.cell 1
          have d2 := HR.out.blk.cell 2
          simp at d1 d2
          have f0 := HR.out.blk.frozen 0
          have f1 := HR.out.blk.frozen 1
          have f2 := HR.out.blk.frozen 2
          have hbb := HR.out.hbase
          have hbl := HR.out.bel
          go_wp2
          go_ret
          exact ⟨rfl, by
            first
              | exact ((((below_drewN hbl q).setCell (p := ⟨bk, 0, none⟩) hbb _).setCell (p := ⟨bk, 1, none⟩) hbb _).setCell (p := ⟨bk, 2, none⟩) hbb _)
              | exact below_drewN (((hbl.setCell (p := ⟨bk, 0, none⟩) hbb _).setCell (p := ⟨bk, 1, none⟩) hbb _).setCell (p := ⟨bk, 2, none⟩) hbb _) q⟩
theorem below_grown {w w' : World} (h : Below w.heap.size w w') : w.grownBy w' none := ⟨h.os, h.tape, h.output, h.size, fun k hk _ => h.block k hk⟩
theorem book_kept {w w' : World} {base bk : Nat} {v1 v2 : Value} {vs us : List Kept} {held : Int} (h : BookAt w base bk 21 22 44 .i32 v1 v2 vs us held) (hb : Below w.heap.size w w') : BookAt w' base bk 21 22 44 .i32 v1 v2 vs us held := by
  have hg := below_grown hb
  have hn : ∀ v : Value, v.ownBlock = none ∨ v.ownBlock ≠ none := fun v => by rcases v.ownBlock with _ | _ <;> simp
  exact ⟨h.blk.grown hg (by simp), h.hbase, h.o1.kept hg (hn _), h.o2.kept hg (hn _), h.ne, fun p hp => (h.k1 p hp).grown hg (hn _), fun p hp => (h.k2 p hp).grown hg (hn _), h.same, h.apart⟩
theorem own_of_IB {w : World} {base g n : Nat} {xs : List Int} (h : IB w g 21 .i32 xs) (hg : base ≤ g) (hn : xs.length = n) (hm : n ≤ maxLen) : OwnI w base 21 .i32 (.slice (some ⟨g, 0, none⟩) n n, xs) := by
  subst hn
  refine ⟨by simp, .inr ⟨g, xs.length, _, rfl, hg, h, Nat.le_refl _, hm, by simp, ?_⟩⟩
  rw [List.take_of_length_le (by simp)]
theorem book_new (w : World) : BookAt (w.alloc (.cells #[.slice none 0 0, .slice none 0 0, .int .i64 0, .bool false] 44)) w.heap.size w.heap.size 21 22 44 .i32 (.slice none 0 0) (.slice none 0 0) [] [] 0 :=
  ⟨heap_alloc_new w _, Nat.le_refl _, World.ownsRow_nil _ _ _ _, World.ownsRow_nil _ _ _ _, .inl rfl, by simp, by simp, rfl, List.Pairwise.nil⟩
end Go.Proofs.Yteoclmmooeibhaa.B_rune
