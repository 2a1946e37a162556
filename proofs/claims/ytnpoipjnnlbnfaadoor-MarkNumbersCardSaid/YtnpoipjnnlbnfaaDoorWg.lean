/- MarkNumbers walked. No conditions but what the world holds of the variables. -/
import Derived.Test.YtnpoipjnnlbnfaaDoorWd
namespace Go.Proofs.YtnpoipjnnlbnfaaDoor
set_option linter.unusedVariables false
open Go.RowKit Go.Proofs.Fe Go.Proofs.Fm Go.Proofs.Fb Go.Proofs.Fk Go.Proofs.Fs Go.Proofs.Fc Go.Proofs.Fu

theorem num_0 : tok (runesI [97, 32, 60, 32, 98, 60, 47, 112, 32, 120, 62]) = [⟨1, [], [97, 32, 60, 32, 98], [], false⟩, ⟨3, [112], [], [], false⟩] := by decide
theorem num_1 : tok (runesI [60, 98, 114, 47, 62, 60, 33, 45, 45, 32, 60, 98, 62, 32, 45, 45, 62, 120, 60, 33, 121, 62, 122]) = [⟨2, [98, 114], [], [], true⟩, ⟨1, [], [120], [], false⟩, ⟨1, [], [122], [], false⟩] := by decide
theorem num_2 : tok (runesI [60, 115, 116, 121, 108, 101, 62, 97, 60, 98, 60, 47, 83, 84, 89, 76, 69, 32, 62]) = [⟨2, [115, 116, 121, 108, 101], [], [], false⟩, ⟨1, [], [97, 60, 98], [], false⟩, ⟨3, [115, 116, 121, 108, 101], [], [], false⟩] := by decide
theorem num_3 : tok (runesI [60, 97]) = [] := by decide
theorem num_4 : tok (runesI [60, 97, 32, 98, 61, 34]) = [] := by decide
theorem num_5 : tok (runesI [60, 112, 32, 61, 120, 62]) = [⟨2, [112], [], [([61, 120], [])], false⟩] := by decide
theorem num_6 : tok (runesI [60]) = [⟨1, [], [60], [], false⟩] := by decide
theorem num_7 : tok (runesI [60, 47, 62]) = [] := by decide
theorem num_8 : tok (runesI []) = [] := by decide
theorem num_9 : tok (runesI [60, 33, 45, 45, 62, 60, 98, 62, 45, 45, 62, 32, 99]) = [⟨1, [], [32, 99], [], false⟩] := by decide
theorem num_10 : tok (runesI [60, 98, 114, 32, 97, 47, 62]) = [⟨2, [98, 114], [], [([97], [])], true⟩] := by decide
theorem num_11 : tok (runesI [60, 115, 99, 114, 105, 112, 116, 62, 60, 47, 115, 99, 114, 105, 112, 116, 120, 62, 60, 47, 115, 99, 114, 105, 112, 116]) = [⟨2, [115, 99, 114, 105, 112, 116], [], [], false⟩, ⟨1, [], [60, 47, 115, 99, 114, 105, 112, 116, 120, 62], [], false⟩] := by decide
theorem num_u : Fe.unesc [38, 110, 98, 115, 112, 59, 38, 113, 117, 111, 116, 59, 38, 35, 48, 59, 38, 35, 120, 68, 56, 48, 48, 59, 38, 35, 49, 50, 51, 52, 53, 54, 55, 56, 57, 59] = [194, 160, 34, 239, 191, 189, 239, 191, 189, 38, 35, 49, 50, 51, 52, 53, 54, 55, 56, 57, 59] := by decide
set_option maxHeartbeats 8000000 in
set_option maxRecDepth 100000 in
theorem numbers_walk (w : World) (he : Env w) :
    Calls Tryd.prog 3 #[] w fun e w' => e = .returned (.bool true) ∧ Below w.heap.size w w' := by
  have HE := Lib.hid (fun W (hb : Below w.heap.size w W) => he.below hb he.sz)
  have HB := Lib.hid (Below.refl w.heap.size w)
  clear he
  go_enter Tryd.func3, Tryd.ntmps3
  have HW : w = w := rfl
  go_wp2_with fail
  refine (chars_law [97, 32, 60, 32, 98] w).mono ?_; rintro e W ⟨rfl, h⟩; replace HB := Lib.hid (HB.out.trans (h.mono HB.out.size)); clear h
  go_wp2_with fail
  refine (shut_law [112] W).mono ?_; rintro e W ⟨rfl, h⟩; replace HB := Lib.hid (HB.out.trans (h.mono HB.out.size)); clear h
  go_wp2_with fail
  refine (cut_true [97, 32, 60, 32, 98, 60, 47, 112, 32, 120, 62] (by decide) (some ⟨W.heap.size, 0, none⟩) 2 2 _ rfl (TRow.of_block (ts := [(⟨1, [], [97, 32, 60, 32, 98], [], false⟩, .slice none 0 0), (⟨3, [112], [], [], false⟩, .slice none 0 0)]) (Bk.new W 25 _) rfl (by intro p hp; rcases List.mem_cons.1 hp with hp | hp; (subst hp; exact ⟨_, _, rfl, ARow.nil _ _⟩); rw [List.mem_singleton.1 hp]; exact ⟨_, _, rfl, ARow.nil _ _⟩)) (HE.out _ (HB.out.alloc HB.out.size _)) num_0).mono ?_; rintro e W ⟨rfl, h⟩; replace HB := Lib.hid ((HB.out.alloc HB.out.size _).trans (h.mono (by have := HB.out.size; simp; omega))); clear h
  go_wp2_with fail
  refine (open_law [98, 114] true none 0 0 W).mono ?_; rintro e W ⟨rfl, h⟩; replace HB := Lib.hid (HB.out.trans (h.mono HB.out.size)); clear h
  go_wp2_with fail
  refine (chars_law [120] W).mono ?_; rintro e W ⟨rfl, h⟩; replace HB := Lib.hid (HB.out.trans (h.mono HB.out.size)); clear h
  go_wp2_with fail
  refine (chars_law [122] W).mono ?_; rintro e W ⟨rfl, h⟩; replace HB := Lib.hid (HB.out.trans (h.mono HB.out.size)); clear h
  go_wp2_with fail
  refine (cut_true [60, 98, 114, 47, 62, 60, 33, 45, 45, 32, 60, 98, 62, 32, 45, 45, 62, 120, 60, 33, 121, 62, 122] (by decide) (some ⟨W.heap.size, 0, none⟩) 3 3 _ rfl (TRow.of_block (ts := [(⟨2, [98, 114], [], [], true⟩, .slice none 0 0), (⟨1, [], [120], [], false⟩, .slice none 0 0), (⟨1, [], [122], [], false⟩, .slice none 0 0)]) (Bk.new W 25 _) rfl (by intro p hp; rcases List.mem_cons.1 hp with hp | hp; (subst hp; exact ⟨_, _, rfl, ARow.nil _ _⟩); rcases List.mem_cons.1 hp with hp | hp; (subst hp; exact ⟨_, _, rfl, ARow.nil _ _⟩); rw [List.mem_singleton.1 hp]; exact ⟨_, _, rfl, ARow.nil _ _⟩)) (HE.out _ (HB.out.alloc HB.out.size _)) num_1).mono ?_; rintro e W ⟨rfl, h⟩; replace HB := Lib.hid ((HB.out.alloc HB.out.size _).trans (h.mono (by have := HB.out.size; simp; omega))); clear h
  go_wp2_with fail
  refine (open_law [115, 116, 121, 108, 101] false none 0 0 W).mono ?_; rintro e W ⟨rfl, h⟩; replace HB := Lib.hid (HB.out.trans (h.mono HB.out.size)); clear h
  go_wp2_with fail
  refine (chars_law [97, 60, 98] W).mono ?_; rintro e W ⟨rfl, h⟩; replace HB := Lib.hid (HB.out.trans (h.mono HB.out.size)); clear h
  go_wp2_with fail
  refine (shut_law [115, 116, 121, 108, 101] W).mono ?_; rintro e W ⟨rfl, h⟩; replace HB := Lib.hid (HB.out.trans (h.mono HB.out.size)); clear h
  go_wp2_with fail
  refine (cut_true [60, 115, 116, 121, 108, 101, 62, 97, 60, 98, 60, 47, 83, 84, 89, 76, 69, 32, 62] (by decide) (some ⟨W.heap.size, 0, none⟩) 3 3 _ rfl (TRow.of_block (ts := [(⟨2, [115, 116, 121, 108, 101], [], [], false⟩, .slice none 0 0), (⟨1, [], [97, 60, 98], [], false⟩, .slice none 0 0), (⟨3, [115, 116, 121, 108, 101], [], [], false⟩, .slice none 0 0)]) (Bk.new W 25 _) rfl (by intro p hp; rcases List.mem_cons.1 hp with hp | hp; (subst hp; exact ⟨_, _, rfl, ARow.nil _ _⟩); rcases List.mem_cons.1 hp with hp | hp; (subst hp; exact ⟨_, _, rfl, ARow.nil _ _⟩); rw [List.mem_singleton.1 hp]; exact ⟨_, _, rfl, ARow.nil _ _⟩)) (HE.out _ (HB.out.alloc HB.out.size _)) num_2).mono ?_; rintro e W ⟨rfl, h⟩; replace HB := Lib.hid ((HB.out.alloc HB.out.size _).trans (h.mono (by have := HB.out.size; simp; omega))); clear h
  go_wp2_with fail
  refine (cut_true [60, 97] (by decide) none 0 0 [] rfl (fun h => absurd rfl h) (HE.out W HB.out) num_3).mono ?_; rintro e W ⟨rfl, h⟩; replace HB := Lib.hid (HB.out.trans (h.mono HB.out.size)); clear h
  go_wp2_with fail
  refine (cut_true [60, 97, 32, 98, 61, 34] (by decide) none 0 0 [] rfl (fun h => absurd rfl h) (HE.out W HB.out) num_4).mono ?_; rintro e W ⟨rfl, h⟩; replace HB := Lib.hid (HB.out.trans (h.mono HB.out.size)); clear h
  go_wp2_with fail
  refine (open_law [112] false (some ⟨W.heap.size, 0, none⟩) 1 1 _).mono ?_; rintro e W2 ⟨rfl, h⟩; have HA := Lib.hid ((ARow.of_block (al := [([61, 120], [])]) (Bk.new W 29 _) rfl).below h (Nat.le_refl _)); replace HB := Lib.hid ((HB.out.alloc HB.out.size _).trans (h.mono (by have := HB.out.size; simp; omega))); clear h
  go_wp2_with fail
  refine (cut_true [60, 112, 32, 61, 120, 62] (by decide) (some ⟨W2.heap.size, 0, none⟩) 1 1 _ rfl (TRow.of_block (ts := [(⟨2, [112], [], [([61, 120], [])], false⟩, .slice (some ⟨W.heap.size, 0, none⟩) 1 1)]) (Bk.new W2 25 _) rfl (by intro p hp; rw [List.mem_singleton.1 hp]; exact ⟨_, _, rfl, HA.out.below ((Below.refl _ W2).alloc (Nat.le_refl _) _) (Nat.le_refl _)⟩)) (HE.out _ (HB.out.alloc HB.out.size _)) num_5).mono ?_; rintro e W ⟨rfl, h⟩; replace HB := Lib.hid ((HB.out.alloc HB.out.size _).trans (h.mono (by have := HB.out.size; simp; omega))); clear h HA
  go_wp2_with fail
  refine (chars_law [60] W).mono ?_; rintro e W ⟨rfl, h⟩; replace HB := Lib.hid (HB.out.trans (h.mono HB.out.size)); clear h
  go_wp2_with fail
  refine (cut_true [60] (by decide) (some ⟨W.heap.size, 0, none⟩) 1 1 _ rfl (TRow.of_block (ts := [(⟨1, [], [60], [], false⟩, .slice none 0 0)]) (Bk.new W 25 _) rfl (by intro p hp; rw [List.mem_singleton.1 hp]; exact ⟨_, _, rfl, ARow.nil _ _⟩)) (HE.out _ (HB.out.alloc HB.out.size _)) num_6).mono ?_; rintro e W ⟨rfl, h⟩; replace HB := Lib.hid ((HB.out.alloc HB.out.size _).trans (h.mono (by have := HB.out.size; simp; omega))); clear h
  go_wp2_with fail
  refine (cut_true [60, 47, 62] (by decide) none 0 0 [] rfl (fun h => absurd rfl h) (HE.out W HB.out) num_7).mono ?_; rintro e W ⟨rfl, h⟩; replace HB := Lib.hid (HB.out.trans (h.mono HB.out.size)); clear h
  go_wp2_with fail
  refine (cut_true [] (by decide) none 0 0 [] rfl (fun h => absurd rfl h) (HE.out W HB.out) num_8).mono ?_; rintro e W ⟨rfl, h⟩; replace HB := Lib.hid (HB.out.trans (h.mono HB.out.size)); clear h
  go_wp2_with fail
  refine (chars_law [32, 99] W).mono ?_; rintro e W ⟨rfl, h⟩; replace HB := Lib.hid (HB.out.trans (h.mono HB.out.size)); clear h
  go_wp2_with fail
  refine (cut_true [60, 33, 45, 45, 62, 60, 98, 62, 45, 45, 62, 32, 99] (by decide) (some ⟨W.heap.size, 0, none⟩) 1 1 _ rfl (TRow.of_block (ts := [(⟨1, [], [32, 99], [], false⟩, .slice none 0 0)]) (Bk.new W 25 _) rfl (by intro p hp; rw [List.mem_singleton.1 hp]; exact ⟨_, _, rfl, ARow.nil _ _⟩)) (HE.out _ (HB.out.alloc HB.out.size _)) num_9).mono ?_; rintro e W ⟨rfl, h⟩; replace HB := Lib.hid ((HB.out.alloc HB.out.size _).trans (h.mono (by have := HB.out.size; simp; omega))); clear h
  go_wp2_with fail
  refine (open_law [98, 114] true (some ⟨W.heap.size, 0, none⟩) 1 1 _).mono ?_; rintro e W2 ⟨rfl, h⟩; have HA := Lib.hid ((ARow.of_block (al := [([97], [])]) (Bk.new W 29 _) rfl).below h (Nat.le_refl _)); replace HB := Lib.hid ((HB.out.alloc HB.out.size _).trans (h.mono (by have := HB.out.size; simp; omega))); clear h
  go_wp2_with fail
  refine (cut_true [60, 98, 114, 32, 97, 47, 62] (by decide) (some ⟨W2.heap.size, 0, none⟩) 1 1 _ rfl (TRow.of_block (ts := [(⟨2, [98, 114], [], [([97], [])], true⟩, .slice (some ⟨W.heap.size, 0, none⟩) 1 1)]) (Bk.new W2 25 _) rfl (by intro p hp; rw [List.mem_singleton.1 hp]; exact ⟨_, _, rfl, HA.out.below ((Below.refl _ W2).alloc (Nat.le_refl _) _) (Nat.le_refl _)⟩)) (HE.out _ (HB.out.alloc HB.out.size _)) num_10).mono ?_; rintro e W ⟨rfl, h⟩; replace HB := Lib.hid ((HB.out.alloc HB.out.size _).trans (h.mono (by have := HB.out.size; simp; omega))); clear h HA
  go_wp2_with fail
  refine (open_law [115, 99, 114, 105, 112, 116] false none 0 0 W).mono ?_; rintro e W ⟨rfl, h⟩; replace HB := Lib.hid (HB.out.trans (h.mono HB.out.size)); clear h
  go_wp2_with fail
  refine (chars_law [60, 47, 115, 99, 114, 105, 112, 116, 120, 62] W).mono ?_; rintro e W ⟨rfl, h⟩; replace HB := Lib.hid (HB.out.trans (h.mono HB.out.size)); clear h
  go_wp2_with fail
  refine (cut_true [60, 115, 99, 114, 105, 112, 116, 62, 60, 47, 115, 99, 114, 105, 112, 116, 120, 62, 60, 47, 115, 99, 114, 105, 112, 116] (by decide) (some ⟨W.heap.size, 0, none⟩) 2 2 _ rfl (TRow.of_block (ts := [(⟨2, [115, 99, 114, 105, 112, 116], [], [], false⟩, .slice none 0 0), (⟨1, [], [60, 47, 115, 99, 114, 105, 112, 116, 120, 62], [], false⟩, .slice none 0 0)]) (Bk.new W 25 _) rfl (by intro p hp; rcases List.mem_cons.1 hp with hp | hp; (subst hp; exact ⟨_, _, rfl, ARow.nil _ _⟩); rw [List.mem_singleton.1 hp]; exact ⟨_, _, rfl, ARow.nil _ _⟩)) (HE.out _ (HB.out.alloc HB.out.size _)) num_11).mono ?_; rintro e W ⟨rfl, h⟩; replace HB := Lib.hid ((HB.out.alloc HB.out.size _).trans (h.mono (by have := HB.out.size; simp; omega))); clear h
  go_wp2_with fail
  refine (unescape_any ⟨#[38, 110, 98, 115, 112, 59, 38, 113, 117, 111, 116, 59, 38, 35, 48, 59, 38, 35, 120, 68, 56, 48, 48, 59, 38, 35, 49, 50, 51, 52, 53, 54, 55, 56, 57, 59]⟩ (by decide) (HE.out W HB.out)).mono ?_; rintro e W ⟨rfl, h⟩; rw [show Fe.unesc (⟨#[38, 110, 98, 115, 112, 59, 38, 113, 117, 111, 116, 59, 38, 35, 48, 59, 38, 35, 120, 68, 56, 48, 48, 59, 38, 35, 49, 50, 51, 52, 53, 54, 55, 56, 57, 59]⟩ : ByteArray).data.toList = _ from num_u]; replace HB := Lib.hid (HB.out.trans (h.mono HB.out.size)); clear h
  go_wp2_with fail
  refine (known_any (HE.out W HB.out)).mono ?_; rintro e W ⟨rfl, h⟩; replace HB := Lib.hid (HB.out.trans (h.mono HB.out.size)); clear h
  go_wp2_with fail
  go_ret
  exact ⟨rfl, HB.out⟩
end Go.Proofs.YtnpoipjnnlbnfaaDoor
