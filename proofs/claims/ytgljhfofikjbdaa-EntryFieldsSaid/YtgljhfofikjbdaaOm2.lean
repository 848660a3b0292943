/- texts of a claim, one after the other: the walk of the table of rules, the walk of the program's check of an entry, the reader of the program: cell, change, entry, and Decode, a part of an object is stored, the walk of the reference's shape of an entry, the same, of kind 2 -/
import Derived.Test.YtgljhfofikjbdaaOm1
import Derived.Laws.CopyRow
/- the walk of the table of rules -/
namespace Go.Proofs.Ytgljhfofikjbdaa
open Go.RowKit
set_option maxRecDepth 20000
set_option linter.unusedSimpArgs false
set_option linter.unusedVariables false

def nilRule : List Value := [.nilFunc, .nilFunc, .nilFunc, .nilFunc, .nilFunc, .nilFunc]
def tabNil : List Value := (List.replicate 9 nilRule).flatMap id
def tabRows : List (List Value) := nilRule :: tabG.map ruleCells
def tabCells : List Value := tabRows.flatMap id
theorem info_rule : (Try.prog.info? 61).map (·.size) = some 6 := by kernel_rfl
theorem one_nil : nilRule.toArray.all (·.oneCell') = true := by kernel_rfl
theorem one_rule (g : RuleG) : (ruleCells g).toArray.all (·.oneCell') = true := by kernel_rfl
theorem one_tab : tabCells.toArray.all (·.oneCell') = true := by kernel_rfl
theorem info_tab : (Try.prog.info? 77).map (·.size) = some tabCells.length := by kernel_rfl
theorem len_tab : tabNil.length = tabCells.length := by kernel_rfl
theorem under_rule : ∃ fs, Try.prog.underlying 61 = some (.struct fs) := ⟨_, Try.underlying61⟩
theorem alloc_rule (w : World) : Sem.run Try.prog (Instr.alloc 61 true (.tuple #[])) w = .ok (.pointer (some ⟨w.heap.size, 0, none⟩)) (w.alloc (.cells nilRule.toArray 61)) := by kernel_rfl
theorem alloc_tab (w : World) : Sem.run Try.prog (Instr.alloc 77 true (.tuple #[])) w = .ok (.pointer (some ⟨w.heap.size, 0, none⟩)) (w.alloc (.cells tabNil.toArray 77)) := by kernel_rfl
theorem build_tab (W : World) : Sem.run Try.prog (Instr.build 77 #[(1, .agg (ruleCells changeG).toArray), (2, .agg (ruleCells undoG).toArray), (3, .agg (ruleCells markG).toArray), (4, .agg (ruleCells markG).toArray), (5, .agg (ruleCells markG).toArray), (6, .agg (ruleCells textG).toArray), (7, .agg (ruleCells indexG).toArray), (8, .agg (ruleCells textG).toArray)]) W = .ok (.agg tabCells.toArray) W := by kernel_rfl
theorem tab_mid {k : Nat} {g : RuleG} (h1 : 1 ≤ k) (hg : tabG[k - 1]? = some g) : ∀ j v, (ruleCells g)[j]? = some v → tabCells[k * 6 + j]? = some v := by
  refine flat_mid (z := 6) tabRows (fun x hx => ?_) k (ruleCells g) ?_
  · rcases List.mem_cons.1 hx with rfl | hx
    · rfl
    · obtain ⟨g, _, rfl⟩ := List.mem_map.1 hx
      rfl
  · obtain ⟨m, rfl⟩ : ∃ m, k = m + 1 := ⟨k - 1, by omega⟩
    rw [Nat.add_sub_cancel] at hg
    unfold tabRows
    rw [List.getElem?_cons_succ, List.getElem?_map, hg]
    rfl
attribute [local irreducible] tabCells tabNil
def RuleYes (k : Int) (w : World) (e : Ending) (w' : World) : Prop := ∃ g, RuleIs (ruleF k) g ∧ e = .returned (.tuple #[.agg (ruleCells g).toArray, .bool true]) ∧ Below w.heap.size w w'
set_option maxHeartbeats 4000000 in
theorem ruleOf_yes (k : Int) (w : World) (hk : kindB k = true) : Calls Try.prog 30 #[.int .i64 k] w (RuleYes k w) := by
  have hk' : 1 ≤ k ∧ k ≤ 8 := by unfold kindB at hk; simpa using hk
  obtain ⟨n, rfl⟩ := Int.eq_ofNat_of_zero_le (show 0 ≤ k by omega)
  obtain ⟨g, hg, hr⟩ := tab_is n (by omega) (by omega)
  have HM : Hid (∀ j v, (ruleCells g)[j]? = some v → tabCells[n * 6 + j]? = some v) := tab_mid (by omega) hg
  have HR := Lib.hid hr
  have n1 : 1 ≤ n := by omega
  have n8 : n < 9 := by omega
  clear hk hk' hg hr
  obtain ⟨fsHUR, huHUR⟩ := under_rule
  have HUR := Lib.hid huHUR
  clear huHUR
  have HB7 : Hid (∀ W, Sem.run Try.prog (Instr.build 61 #[(0, fv markG.g0), (1, fv markG.g1), (2, fv markG.g2), (3, fv markG.g3), (4, fv markG.g4), (5, fv markG.g5)]) W = .ok (.agg (ruleCells markG).toArray) W) := fun W => by kernel_rfl
  have HB8 : Hid (∀ W, Sem.run Try.prog (Instr.build 61 #[(0, fv textG.g0), (1, fv textG.g1), (2, fv textG.g2), (3, fv textG.g3), (4, fv textG.g4), (5, fv textG.g5)]) W = .ok (.agg (ruleCells textG).toArray) W) := fun W => by kernel_rfl
  have HB9 : Hid (∀ W, Sem.run Try.prog (Instr.build 61 #[(0, fv changeG.g0), (1, fv changeG.g1), (2, fv changeG.g2), (3, fv changeG.g3), (4, fv changeG.g4), (5, fv changeG.g5)]) W = .ok (.agg (ruleCells changeG).toArray) W) := fun W => by kernel_rfl
  have HB10 : Hid (∀ W, Sem.run Try.prog (Instr.build 61 #[(0, fv undoG.g0), (1, fv undoG.g1), (2, fv undoG.g2), (3, fv undoG.g3), (4, fv undoG.g4), (5, fv undoG.g5)]) W = .ok (.agg (ruleCells undoG).toArray) W) := fun W => by kernel_rfl
  have HB15 : Hid (∀ W, Sem.run Try.prog (Instr.build 61 #[(0, fv indexG.g0), (1, fv indexG.g1), (2, fv indexG.g2), (3, fv indexG.g3), (4, fv indexG.g4), (5, fv indexG.g5)]) W = .ok (.agg (ruleCells indexG).toArray) W) := fun W => by kernel_rfl
  have HB24 : Hid (∀ W, Sem.run Try.prog (Instr.build 61 #[]) W = .ok (.agg nilRule.toArray) W) := fun W => by kernel_rfl
  have h1 := (Hp.start w).put 61 nilRule
  have HS0 : Hid (Hp w [.ob w.heap.size 61 nilRule] (w.alloc (.cells #[.nilFunc, .nilFunc, .nilFunc, .nilFunc, .nilFunc, .nilFunc] 61))) := h1
  clear h1
  go_enter Try.func30, Try.ntmps30
  go_upto_region 1 with (fail)
  have HS2 : Hid (Hp w [.ob (w.heap.size) 61 (nilRule)] (w.alloc (.cells #[.nilFunc, .nilFunc, .nilFunc, .nilFunc, .nilFunc, .nilFunc] 61))) := HS0.out
  clear HS0
  generalize w.alloc (.cells #[.nilFunc, .nilFunc, .nilFunc, .nilFunc, .nilFunc, .nilFunc] 61) = w3 at *
  go_upto_region 2 with (first | ((with_reducible refine wpList_build_v (d := some 7) 61 (.agg (ruleCells markG).toArray) ?_ ?_); (intro W; simp only [List.map_toArray, List.map_cons, List.map_nil]; exact HB7.out W); simp only [Act.put, List.setIfInBounds_toArray, List.set_cons_zero, List.set_cons_succ]) | ((with_reducible refine wpList_alloc_ob 61 (nilRule) ?_ ?_); (exact alloc_rule); simp only [Act.put, List.setIfInBounds_toArray, List.set_cons_zero, List.set_cons_succ]) | ((with_reducible refine wpList_store_ob 61 (.tmp 4) (w3.heap.size) (ruleCells markG) (nilRule) 61 ?_ ?_ ?_ ?_ ?_ ?_ ?_); (exact rfl); (exact rfl); (exact ((HS2.out).put 61 (nilRule)).get 1 rfl); (exact info_rule); (exact rfl); (exact (one_rule _)); skip))
  have HS3 : Hid (Hp w [.ob (w.heap.size) 61 (nilRule), .ob (w3.heap.size) 61 (ruleCells markG)] ((w3.alloc (.cells (nilRule).toArray 61)).setRow (w3.heap.size) (ruleCells markG).toArray)) := ((HS2.out).put 61 (nilRule)).row 1 rfl (ruleCells markG)
  clear HS2
  generalize ((w3.alloc (.cells (nilRule).toArray 61)).setRow (w3.heap.size) (ruleCells markG).toArray) = w4 at *
  generalize w3.heap.size = B1 at *
  go_upto_region 3 with (first | ((with_reducible refine wpList_build_v (d := some 8) 61 (.agg (ruleCells textG).toArray) ?_ ?_); (intro W; simp only [List.map_toArray, List.map_cons, List.map_nil]; exact HB8.out W); simp only [Act.put, List.setIfInBounds_toArray, List.set_cons_zero, List.set_cons_succ]) | ((with_reducible refine wpList_alloc_ob 61 (nilRule) ?_ ?_); (exact alloc_rule); simp only [Act.put, List.setIfInBounds_toArray, List.set_cons_zero, List.set_cons_succ]) | ((with_reducible refine wpList_store_ob 61 (.tmp 5) (w4.heap.size) (ruleCells textG) (nilRule) 61 ?_ ?_ ?_ ?_ ?_ ?_ ?_); (exact rfl); (exact rfl); (exact ((HS3.out).put 61 (nilRule)).get 2 rfl); (exact info_rule); (exact rfl); (exact (one_rule _)); skip))
  have HS4 : Hid (Hp w [.ob (w.heap.size) 61 (nilRule), .ob B1 61 (ruleCells markG), .ob (w4.heap.size) 61 (ruleCells textG)] ((w4.alloc (.cells (nilRule).toArray 61)).setRow (w4.heap.size) (ruleCells textG).toArray)) := ((HS3.out).put 61 (nilRule)).row 2 rfl (ruleCells textG)
  clear HS3
  generalize ((w4.alloc (.cells (nilRule).toArray 61)).setRow (w4.heap.size) (ruleCells textG).toArray) = w5 at *
  generalize w4.heap.size = B2 at *
  go_upto_region 4 with (first | ((with_reducible refine wpList_build_v (d := some 9) 61 (.agg (ruleCells changeG).toArray) ?_ ?_); (intro W; simp only [List.map_toArray, List.map_cons, List.map_nil]; exact HB9.out W); simp only [Act.put, List.setIfInBounds_toArray, List.set_cons_zero, List.set_cons_succ]) | ((with_reducible refine wpList_build_v (d := some 10) 61 (.agg (ruleCells undoG).toArray) ?_ ?_); (intro W; simp only [List.map_toArray, List.map_cons, List.map_nil]; exact HB10.out W); simp only [Act.put, List.setIfInBounds_toArray, List.set_cons_zero, List.set_cons_succ]) | ((with_reducible refine wpList_load_ob 61 (.tmp 4) B1 (ruleCells markG) 61 HUR.out ?_ ?_ ?_ ?_ ?_); (exact rfl); (exact (HS4.out).get 1 rfl); (exact rfl); (exact info_rule); simp only [Act.put, List.setIfInBounds_toArray, List.set_cons_zero, List.set_cons_succ]) | ((with_reducible refine wpList_load_ob 61 (.tmp 5) B2 (ruleCells textG) 61 HUR.out ?_ ?_ ?_ ?_ ?_); (exact rfl); (exact (HS4.out).get 2 rfl); (exact rfl); (exact info_rule); simp only [Act.put, List.setIfInBounds_toArray, List.set_cons_zero, List.set_cons_succ]) | ((with_reducible refine wpList_build_v (d := some 15) 61 (.agg (ruleCells indexG).toArray) ?_ ?_); (intro W; simp only [List.map_toArray, List.map_cons, List.map_nil]; exact HB15.out W); simp only [Act.put, List.setIfInBounds_toArray, List.set_cons_zero, List.set_cons_succ]) | ((with_reducible refine wpList_build_v (d := some 17) 77 (.agg (tabCells).toArray) ?_ ?_); (intro W; simp only [List.map_toArray, List.map_cons, List.map_nil]; exact build_tab W); simp only [Act.put, List.setIfInBounds_toArray, List.set_cons_zero, List.set_cons_succ]) | ((with_reducible refine wpList_alloc_ob 77 (tabNil) ?_ ?_); (exact alloc_tab); simp only [Act.put, List.setIfInBounds_toArray, List.set_cons_zero, List.set_cons_succ]) | ((with_reducible refine wpList_store_ob 77 (.tmp 6) (w5.heap.size) (tabCells) (tabNil) 77 ?_ ?_ ?_ ?_ ?_ ?_ ?_); (exact rfl); (exact rfl); (exact ((HS4.out).put 77 (tabNil)).get 3 rfl); (exact info_tab); (exact len_tab); (exact one_tab); skip))
  have HS5 : Hid (Hp w [.ob (w.heap.size) 61 (nilRule), .ob B1 61 (ruleCells markG), .ob B2 61 (ruleCells textG), .ob (w5.heap.size) 77 (tabCells)] ((w5.alloc (.cells (tabNil).toArray 77)).setRow (w5.heap.size) (tabCells).toArray)) := ((HS4.out).put 77 (tabNil)).row 3 rfl (tabCells)
  clear HS4
  generalize ((w5.alloc (.cells (tabNil).toArray 77)).setRow (w5.heap.size) (tabCells).toArray) = w6 at *
  generalize w5.heap.size = B3 at *
  go_wp2_with (first | ((with_reducible refine wpList_load_at 61 (.tmp 26) B3 (n * 6) (ruleCells g) HUR.out ?_ ?_ ?_ ?_ ?_); (exact rfl); (exact (HS5.out).mid 3 rfl (n * 6) _ (HM.out)); (exact rfl); (exact info_rule); simp only [Act.put, List.setIfInBounds_toArray, List.set_cons_zero, List.set_cons_succ]) | ((with_reducible refine wpList_store_ob 61 (.tmp 2) (w.heap.size) (ruleCells g) (nilRule) 61 ?_ ?_ ?_ ?_ ?_ ?_ ?_); (exact rfl); (exact rfl); (exact (HS5.out).get 0 rfl); (exact info_rule); (exact rfl); (exact (one_rule _)); skip))
  have HS6 : Hid (Hp w [.ob (w.heap.size) 61 (ruleCells g), .ob B1 61 (ruleCells markG), .ob B2 61 (ruleCells textG), .ob B3 77 (tabCells)] (w6.setRow (w.heap.size) (ruleCells g).toArray)) := (HS5.out).row 0 rfl (ruleCells g)
  clear HS5
  generalize (w6.setRow (w.heap.size) (ruleCells g).toArray) = w7 at *
  refine bodyPost_ret (results_ob_tmp Try.results30 _ _ w.heap.size (ruleCells g) 61 _ rfl ((HS6.out).get 0 rfl) HUR.out rfl info_rule) rfl ?_
  exact ⟨g, HR.out, rfl, (HS6.out).old⟩
set_option maxHeartbeats 4000000 in
theorem ruleOf_lo (k : Int) (w : World) (hk : k < 1) : Calls Try.prog 30 #[.int .i64 k] w fun e w' => e = .returned (.tuple #[.agg nilRule.toArray, .bool false]) ∧ Below w.heap.size w w' := by
  obtain ⟨fsHUR, huHUR⟩ := under_rule
  have HUR := Lib.hid huHUR
  clear huHUR
  have HB7 : Hid (∀ W, Sem.run Try.prog (Instr.build 61 #[(0, fv markG.g0), (1, fv markG.g1), (2, fv markG.g2), (3, fv markG.g3), (4, fv markG.g4), (5, fv markG.g5)]) W = .ok (.agg (ruleCells markG).toArray) W) := fun W => by kernel_rfl
  have HB8 : Hid (∀ W, Sem.run Try.prog (Instr.build 61 #[(0, fv textG.g0), (1, fv textG.g1), (2, fv textG.g2), (3, fv textG.g3), (4, fv textG.g4), (5, fv textG.g5)]) W = .ok (.agg (ruleCells textG).toArray) W) := fun W => by kernel_rfl
  have HB9 : Hid (∀ W, Sem.run Try.prog (Instr.build 61 #[(0, fv changeG.g0), (1, fv changeG.g1), (2, fv changeG.g2), (3, fv changeG.g3), (4, fv changeG.g4), (5, fv changeG.g5)]) W = .ok (.agg (ruleCells changeG).toArray) W) := fun W => by kernel_rfl
  have HB10 : Hid (∀ W, Sem.run Try.prog (Instr.build 61 #[(0, fv undoG.g0), (1, fv undoG.g1), (2, fv undoG.g2), (3, fv undoG.g3), (4, fv undoG.g4), (5, fv undoG.g5)]) W = .ok (.agg (ruleCells undoG).toArray) W) := fun W => by kernel_rfl
  have HB15 : Hid (∀ W, Sem.run Try.prog (Instr.build 61 #[(0, fv indexG.g0), (1, fv indexG.g1), (2, fv indexG.g2), (3, fv indexG.g3), (4, fv indexG.g4), (5, fv indexG.g5)]) W = .ok (.agg (ruleCells indexG).toArray) W) := fun W => by kernel_rfl
  have HB24 : Hid (∀ W, Sem.run Try.prog (Instr.build 61 #[]) W = .ok (.agg nilRule.toArray) W) := fun W => by kernel_rfl
  have h1 := (Hp.start w).put 61 nilRule
  have HS0 : Hid (Hp w [.ob w.heap.size 61 nilRule] (w.alloc (.cells #[.nilFunc, .nilFunc, .nilFunc, .nilFunc, .nilFunc, .nilFunc] 61))) := h1
  clear h1
  go_enter Try.func30, Try.ntmps30
  go_upto_region 1 with (fail)
  have HS2 : Hid (Hp w [.ob (w.heap.size) 61 (nilRule)] (w.alloc (.cells #[.nilFunc, .nilFunc, .nilFunc, .nilFunc, .nilFunc, .nilFunc] 61))) := HS0.out
  clear HS0
  generalize w.alloc (.cells #[.nilFunc, .nilFunc, .nilFunc, .nilFunc, .nilFunc, .nilFunc] 61) = w3 at *
  go_upto_region 2 with (first | ((with_reducible refine wpList_build_v (d := some 7) 61 (.agg (ruleCells markG).toArray) ?_ ?_); (intro W; simp only [List.map_toArray, List.map_cons, List.map_nil]; exact HB7.out W); simp only [Act.put, List.setIfInBounds_toArray, List.set_cons_zero, List.set_cons_succ]) | ((with_reducible refine wpList_alloc_ob 61 (nilRule) ?_ ?_); (exact alloc_rule); simp only [Act.put, List.setIfInBounds_toArray, List.set_cons_zero, List.set_cons_succ]) | ((with_reducible refine wpList_store_ob 61 (.tmp 4) (w3.heap.size) (ruleCells markG) (nilRule) 61 ?_ ?_ ?_ ?_ ?_ ?_ ?_); (exact rfl); (exact rfl); (exact ((HS2.out).put 61 (nilRule)).get 1 rfl); (exact info_rule); (exact rfl); (exact (one_rule _)); skip))
  have HS3 : Hid (Hp w [.ob (w.heap.size) 61 (nilRule), .ob (w3.heap.size) 61 (ruleCells markG)] ((w3.alloc (.cells (nilRule).toArray 61)).setRow (w3.heap.size) (ruleCells markG).toArray)) := ((HS2.out).put 61 (nilRule)).row 1 rfl (ruleCells markG)
  clear HS2
  generalize ((w3.alloc (.cells (nilRule).toArray 61)).setRow (w3.heap.size) (ruleCells markG).toArray) = w4 at *
  generalize w3.heap.size = B1 at *
  go_upto_region 3 with (first | ((with_reducible refine wpList_build_v (d := some 8) 61 (.agg (ruleCells textG).toArray) ?_ ?_); (intro W; simp only [List.map_toArray, List.map_cons, List.map_nil]; exact HB8.out W); simp only [Act.put, List.setIfInBounds_toArray, List.set_cons_zero, List.set_cons_succ]) | ((with_reducible refine wpList_alloc_ob 61 (nilRule) ?_ ?_); (exact alloc_rule); simp only [Act.put, List.setIfInBounds_toArray, List.set_cons_zero, List.set_cons_succ]) | ((with_reducible refine wpList_store_ob 61 (.tmp 5) (w4.heap.size) (ruleCells textG) (nilRule) 61 ?_ ?_ ?_ ?_ ?_ ?_ ?_); (exact rfl); (exact rfl); (exact ((HS3.out).put 61 (nilRule)).get 2 rfl); (exact info_rule); (exact rfl); (exact (one_rule _)); skip))
  have HS4 : Hid (Hp w [.ob (w.heap.size) 61 (nilRule), .ob B1 61 (ruleCells markG), .ob (w4.heap.size) 61 (ruleCells textG)] ((w4.alloc (.cells (nilRule).toArray 61)).setRow (w4.heap.size) (ruleCells textG).toArray)) := ((HS3.out).put 61 (nilRule)).row 2 rfl (ruleCells textG)
  clear HS3
  generalize ((w4.alloc (.cells (nilRule).toArray 61)).setRow (w4.heap.size) (ruleCells textG).toArray) = w5 at *
  generalize w4.heap.size = B2 at *
  go_upto_region 4 with (first | ((with_reducible refine wpList_build_v (d := some 9) 61 (.agg (ruleCells changeG).toArray) ?_ ?_); (intro W; simp only [List.map_toArray, List.map_cons, List.map_nil]; exact HB9.out W); simp only [Act.put, List.setIfInBounds_toArray, List.set_cons_zero, List.set_cons_succ]) | ((with_reducible refine wpList_build_v (d := some 10) 61 (.agg (ruleCells undoG).toArray) ?_ ?_); (intro W; simp only [List.map_toArray, List.map_cons, List.map_nil]; exact HB10.out W); simp only [Act.put, List.setIfInBounds_toArray, List.set_cons_zero, List.set_cons_succ]) | ((with_reducible refine wpList_load_ob 61 (.tmp 4) B1 (ruleCells markG) 61 HUR.out ?_ ?_ ?_ ?_ ?_); (exact rfl); (exact (HS4.out).get 1 rfl); (exact rfl); (exact info_rule); simp only [Act.put, List.setIfInBounds_toArray, List.set_cons_zero, List.set_cons_succ]) | ((with_reducible refine wpList_load_ob 61 (.tmp 5) B2 (ruleCells textG) 61 HUR.out ?_ ?_ ?_ ?_ ?_); (exact rfl); (exact (HS4.out).get 2 rfl); (exact rfl); (exact info_rule); simp only [Act.put, List.setIfInBounds_toArray, List.set_cons_zero, List.set_cons_succ]) | ((with_reducible refine wpList_build_v (d := some 15) 61 (.agg (ruleCells indexG).toArray) ?_ ?_); (intro W; simp only [List.map_toArray, List.map_cons, List.map_nil]; exact HB15.out W); simp only [Act.put, List.setIfInBounds_toArray, List.set_cons_zero, List.set_cons_succ]) | ((with_reducible refine wpList_build_v (d := some 17) 77 (.agg (tabCells).toArray) ?_ ?_); (intro W; simp only [List.map_toArray, List.map_cons, List.map_nil]; exact build_tab W); simp only [Act.put, List.setIfInBounds_toArray, List.set_cons_zero, List.set_cons_succ]) | ((with_reducible refine wpList_alloc_ob 77 (tabNil) ?_ ?_); (exact alloc_tab); simp only [Act.put, List.setIfInBounds_toArray, List.set_cons_zero, List.set_cons_succ]) | ((with_reducible refine wpList_store_ob 77 (.tmp 6) (w5.heap.size) (tabCells) (tabNil) 77 ?_ ?_ ?_ ?_ ?_ ?_ ?_); (exact rfl); (exact rfl); (exact ((HS4.out).put 77 (tabNil)).get 3 rfl); (exact info_tab); (exact len_tab); (exact one_tab); skip))
  have HS5 : Hid (Hp w [.ob (w.heap.size) 61 (nilRule), .ob B1 61 (ruleCells markG), .ob B2 61 (ruleCells textG), .ob (w5.heap.size) 77 (tabCells)] ((w5.alloc (.cells (tabNil).toArray 77)).setRow (w5.heap.size) (tabCells).toArray)) := ((HS4.out).put 77 (tabNil)).row 3 rfl (tabCells)
  clear HS4
  generalize ((w5.alloc (.cells (tabNil).toArray 77)).setRow (w5.heap.size) (tabCells).toArray) = w6 at *
  generalize w5.heap.size = B3 at *
  go_wp2_with (first | ((with_reducible refine wpList_build_v (d := some 24) 61 (.agg (nilRule).toArray) ?_ ?_); (intro W; simp only [List.map_toArray, List.map_cons, List.map_nil]; exact HB24.out W); simp only [Act.put, List.setIfInBounds_toArray, List.set_cons_zero, List.set_cons_succ]) | ((with_reducible refine wpList_store_ob 61 (.tmp 2) (w.heap.size) (nilRule) (nilRule) 61 ?_ ?_ ?_ ?_ ?_ ?_ ?_); (exact rfl); (exact rfl); (exact (HS5.out).get 0 rfl); (exact info_rule); (exact rfl); (exact one_nil); skip))
  have HS6 : Hid (Hp w [.ob (w.heap.size) 61 (nilRule), .ob B1 61 (ruleCells markG), .ob B2 61 (ruleCells textG), .ob B3 77 (tabCells)] (w6.setRow (w.heap.size) (nilRule).toArray)) := (HS5.out).row 0 rfl (nilRule)
  clear HS5
  generalize (w6.setRow (w.heap.size) (nilRule).toArray) = w7 at *
  refine bodyPost_ret (results_ob_tmp Try.results30 _ _ w.heap.size nilRule 61 _ rfl ((HS6.out).get 0 rfl) HUR.out rfl info_rule) rfl ?_
  exact ⟨rfl, (HS6.out).old⟩
set_option maxHeartbeats 4000000 in
theorem ruleOf_hi (k : Int) (w : World) (hk : 8 < k) : Calls Try.prog 30 #[.int .i64 k] w fun e w' => e = .returned (.tuple #[.agg nilRule.toArray, .bool false]) ∧ Below w.heap.size w w' := by
  obtain ⟨fsHUR, huHUR⟩ := under_rule
  have HUR := Lib.hid huHUR
  clear huHUR
  have HB7 : Hid (∀ W, Sem.run Try.prog (Instr.build 61 #[(0, fv markG.g0), (1, fv markG.g1), (2, fv markG.g2), (3, fv markG.g3), (4, fv markG.g4), (5, fv markG.g5)]) W = .ok (.agg (ruleCells markG).toArray) W) := fun W => by kernel_rfl
  have HB8 : Hid (∀ W, Sem.run Try.prog (Instr.build 61 #[(0, fv textG.g0), (1, fv textG.g1), (2, fv textG.g2), (3, fv textG.g3), (4, fv textG.g4), (5, fv textG.g5)]) W = .ok (.agg (ruleCells textG).toArray) W) := fun W => by kernel_rfl
  have HB9 : Hid (∀ W, Sem.run Try.prog (Instr.build 61 #[(0, fv changeG.g0), (1, fv changeG.g1), (2, fv changeG.g2), (3, fv changeG.g3), (4, fv changeG.g4), (5, fv changeG.g5)]) W = .ok (.agg (ruleCells changeG).toArray) W) := fun W => by kernel_rfl
  have HB10 : Hid (∀ W, Sem.run Try.prog (Instr.build 61 #[(0, fv undoG.g0), (1, fv undoG.g1), (2, fv undoG.g2), (3, fv undoG.g3), (4, fv undoG.g4), (5, fv undoG.g5)]) W = .ok (.agg (ruleCells undoG).toArray) W) := fun W => by kernel_rfl
  have HB15 : Hid (∀ W, Sem.run Try.prog (Instr.build 61 #[(0, fv indexG.g0), (1, fv indexG.g1), (2, fv indexG.g2), (3, fv indexG.g3), (4, fv indexG.g4), (5, fv indexG.g5)]) W = .ok (.agg (ruleCells indexG).toArray) W) := fun W => by kernel_rfl
  have HB24 : Hid (∀ W, Sem.run Try.prog (Instr.build 61 #[]) W = .ok (.agg nilRule.toArray) W) := fun W => by kernel_rfl
  have h1 := (Hp.start w).put 61 nilRule
  have HS0 : Hid (Hp w [.ob w.heap.size 61 nilRule] (w.alloc (.cells #[.nilFunc, .nilFunc, .nilFunc, .nilFunc, .nilFunc, .nilFunc] 61))) := h1
  clear h1
  go_enter Try.func30, Try.ntmps30
  go_upto_region 1 with (fail)
  have HS2 : Hid (Hp w [.ob (w.heap.size) 61 (nilRule)] (w.alloc (.cells #[.nilFunc, .nilFunc, .nilFunc, .nilFunc, .nilFunc, .nilFunc] 61))) := HS0.out
  clear HS0
  generalize w.alloc (.cells #[.nilFunc, .nilFunc, .nilFunc, .nilFunc, .nilFunc, .nilFunc] 61) = w3 at *
  go_upto_region 2 with (first | ((with_reducible refine wpList_build_v (d := some 7) 61 (.agg (ruleCells markG).toArray) ?_ ?_); (intro W; simp only [List.map_toArray, List.map_cons, List.map_nil]; exact HB7.out W); simp only [Act.put, List.setIfInBounds_toArray, List.set_cons_zero, List.set_cons_succ]) | ((with_reducible refine wpList_alloc_ob 61 (nilRule) ?_ ?_); (exact alloc_rule); simp only [Act.put, List.setIfInBounds_toArray, List.set_cons_zero, List.set_cons_succ]) | ((with_reducible refine wpList_store_ob 61 (.tmp 4) (w3.heap.size) (ruleCells markG) (nilRule) 61 ?_ ?_ ?_ ?_ ?_ ?_ ?_); (exact rfl); (exact rfl); (exact ((HS2.out).put 61 (nilRule)).get 1 rfl); (exact info_rule); (exact rfl); (exact (one_rule _)); skip))
  have HS3 : Hid (Hp w [.ob (w.heap.size) 61 (nilRule), .ob (w3.heap.size) 61 (ruleCells markG)] ((w3.alloc (.cells (nilRule).toArray 61)).setRow (w3.heap.size) (ruleCells markG).toArray)) := ((HS2.out).put 61 (nilRule)).row 1 rfl (ruleCells markG)
  clear HS2
  generalize ((w3.alloc (.cells (nilRule).toArray 61)).setRow (w3.heap.size) (ruleCells markG).toArray) = w4 at *
  generalize w3.heap.size = B1 at *
  go_upto_region 3 with (first | ((with_reducible refine wpList_build_v (d := some 8) 61 (.agg (ruleCells textG).toArray) ?_ ?_); (intro W; simp only [List.map_toArray, List.map_cons, List.map_nil]; exact HB8.out W); simp only [Act.put, List.setIfInBounds_toArray, List.set_cons_zero, List.set_cons_succ]) | ((with_reducible refine wpList_alloc_ob 61 (nilRule) ?_ ?_); (exact alloc_rule); simp only [Act.put, List.setIfInBounds_toArray, List.set_cons_zero, List.set_cons_succ]) | ((with_reducible refine wpList_store_ob 61 (.tmp 5) (w4.heap.size) (ruleCells textG) (nilRule) 61 ?_ ?_ ?_ ?_ ?_ ?_ ?_); (exact rfl); (exact rfl); (exact ((HS3.out).put 61 (nilRule)).get 2 rfl); (exact info_rule); (exact rfl); (exact (one_rule _)); skip))
  have HS4 : Hid (Hp w [.ob (w.heap.size) 61 (nilRule), .ob B1 61 (ruleCells markG), .ob (w4.heap.size) 61 (ruleCells textG)] ((w4.alloc (.cells (nilRule).toArray 61)).setRow (w4.heap.size) (ruleCells textG).toArray)) := ((HS3.out).put 61 (nilRule)).row 2 rfl (ruleCells textG)
  clear HS3
  generalize ((w4.alloc (.cells (nilRule).toArray 61)).setRow (w4.heap.size) (ruleCells textG).toArray) = w5 at *
  generalize w4.heap.size = B2 at *
  go_upto_region 4 with (first | ((with_reducible refine wpList_build_v (d := some 9) 61 (.agg (ruleCells changeG).toArray) ?_ ?_); (intro W; simp only [List.map_toArray, List.map_cons, List.map_nil]; exact HB9.out W); simp only [Act.put, List.setIfInBounds_toArray, List.set_cons_zero, List.set_cons_succ]) | ((with_reducible refine wpList_build_v (d := some 10) 61 (.agg (ruleCells undoG).toArray) ?_ ?_); (intro W; simp only [List.map_toArray, List.map_cons, List.map_nil]; exact HB10.out W); simp only [Act.put, List.setIfInBounds_toArray, List.set_cons_zero, List.set_cons_succ]) | ((with_reducible refine wpList_load_ob 61 (.tmp 4) B1 (ruleCells markG) 61 HUR.out ?_ ?_ ?_ ?_ ?_); (exact rfl); (exact (HS4.out).get 1 rfl); (exact rfl); (exact info_rule); simp only [Act.put, List.setIfInBounds_toArray, List.set_cons_zero, List.set_cons_succ]) | ((with_reducible refine wpList_load_ob 61 (.tmp 5) B2 (ruleCells textG) 61 HUR.out ?_ ?_ ?_ ?_ ?_); (exact rfl); (exact (HS4.out).get 2 rfl); (exact rfl); (exact info_rule); simp only [Act.put, List.setIfInBounds_toArray, List.set_cons_zero, List.set_cons_succ]) | ((with_reducible refine wpList_build_v (d := some 15) 61 (.agg (ruleCells indexG).toArray) ?_ ?_); (intro W; simp only [List.map_toArray, List.map_cons, List.map_nil]; exact HB15.out W); simp only [Act.put, List.setIfInBounds_toArray, List.set_cons_zero, List.set_cons_succ]) | ((with_reducible refine wpList_build_v (d := some 17) 77 (.agg (tabCells).toArray) ?_ ?_); (intro W; simp only [List.map_toArray, List.map_cons, List.map_nil]; exact build_tab W); simp only [Act.put, List.setIfInBounds_toArray, List.set_cons_zero, List.set_cons_succ]) | ((with_reducible refine wpList_alloc_ob 77 (tabNil) ?_ ?_); (exact alloc_tab); simp only [Act.put, List.setIfInBounds_toArray, List.set_cons_zero, List.set_cons_succ]) | ((with_reducible refine wpList_store_ob 77 (.tmp 6) (w5.heap.size) (tabCells) (tabNil) 77 ?_ ?_ ?_ ?_ ?_ ?_ ?_); (exact rfl); (exact rfl); (exact ((HS4.out).put 77 (tabNil)).get 3 rfl); (exact info_tab); (exact len_tab); (exact one_tab); skip))
  have HS5 : Hid (Hp w [.ob (w.heap.size) 61 (nilRule), .ob B1 61 (ruleCells markG), .ob B2 61 (ruleCells textG), .ob (w5.heap.size) 77 (tabCells)] ((w5.alloc (.cells (tabNil).toArray 77)).setRow (w5.heap.size) (tabCells).toArray)) := ((HS4.out).put 77 (tabNil)).row 3 rfl (tabCells)
  clear HS4
  generalize ((w5.alloc (.cells (tabNil).toArray 77)).setRow (w5.heap.size) (tabCells).toArray) = w6 at *
  generalize w5.heap.size = B3 at *
  go_wp2_with (first | ((with_reducible refine wpList_build_v (d := some 24) 61 (.agg (nilRule).toArray) ?_ ?_); (intro W; simp only [List.map_toArray, List.map_cons, List.map_nil]; exact HB24.out W); simp only [Act.put, List.setIfInBounds_toArray, List.set_cons_zero, List.set_cons_succ]) | ((with_reducible refine wpList_store_ob 61 (.tmp 2) (w.heap.size) (nilRule) (nilRule) 61 ?_ ?_ ?_ ?_ ?_ ?_ ?_); (exact rfl); (exact rfl); (exact (HS5.out).get 0 rfl); (exact info_rule); (exact rfl); (exact one_nil); skip))
  have HS6 : Hid (Hp w [.ob (w.heap.size) 61 (nilRule), .ob B1 61 (ruleCells markG), .ob B2 61 (ruleCells textG), .ob B3 77 (tabCells)] (w6.setRow (w.heap.size) (nilRule).toArray)) := (HS5.out).row 0 rfl (nilRule)
  clear HS5
  generalize (w6.setRow (w.heap.size) (nilRule).toArray) = w7 at *
  refine bodyPost_ret (results_ob_tmp Try.results30 _ _ w.heap.size nilRule 61 _ rfl ((HS6.out).get 0 rfl) HUR.out rfl info_rule) rfl ?_
  exact ⟨rfl, (HS6.out).old⟩
theorem ruleOf_no (k : Int) (w : World) (hk : kindB k = false) : Calls Try.prog 30 #[.int .i64 k] w fun e w' => e = .returned (.tuple #[.agg nilRule.toArray, .bool false]) ∧ Below w.heap.size w w' := by
  by_cases h : k < 1
  · exact ruleOf_lo k w h
  · exact ruleOf_hi k w (by
      unfold kindB at hk
      simp at hk
      have := hk (by omega)
      omega)
end Go.Proofs.Ytgljhfofikjbdaa
/- the walk of the program's check of an entry -/
namespace Go.Proofs.Ytgljhfofikjbdaa
open Go.RowKit
set_option maxRecDepth 20000
set_option linter.unusedSimpArgs false
set_option linter.unusedVariables false

set_option maxHeartbeats 4000000 in
theorem valid_no' (e : Ent) (w : World) (he : GoodEn e) (hk : kindB e.kind = false) : Calls Try.prog 14 #[.agg (enCells e).toArray] w fun r w' => r = .returned (.bool (entOkB e)) ∧ Below w.heap.size w w' := by
  have HE : Hid (entOkB e = (kindB e.kind && (decide (1 ≤ e.lsn) && (decide (e.lsn ≤ 1099511627776) && (befB e.ptx e.lsn && (befB e.ppg e.lsn && (befB e.ref e.lsn && ((ruleF e.kind).p0 e.tx && ((ruleF e.kind).p1 e.ptx && ((ruleF e.kind).p2 e.ppg && ((ruleF e.kind).p3 e.ref e.ptx && ((ruleF e.kind).p4 e.ch && (ruleF e.kind).p5 e.blob)))))))))))) := rfl
  have HC := Lib.hid he.ch
  have HBl := Lib.hid he.blob
  clear he
  have h1 := (Hp.start w).put 28 (enCells e)
  have HS0 : Hid (Hp w [.ob w.heap.size 28 (enCells e)] (w.alloc (.cells (enCells e).toArray 28))) := h1
  clear h1
  have e1 : (w.alloc (.cells (enCells e).toArray 28)).cell? ⟨w.heap.size, 1, none⟩ = some (.int .i64 e.kind) := HS0.out.at 0 rfl 1 rfl
  go_enter Try.func14, Try.ntmps14
  go_wp2_with fail
  refine (ruleOf_no e.kind _ hk).mono ?_
  rintro r w2 ⟨rfl, hb⟩
  have HS1 : Hid (Hp w [.ob w.heap.size 28 (enCells e)] w2) := HS0.out.calls hb
  clear hb e1 HS0
  have HS2 := Lib.hid ((HS1.out.put 61 nilRule).row 1 rfl nilRule)
  go_wp2_with (first | ((with_reducible refine wpList_alloc_ob 61 nilRule ?_ ?_); (exact alloc_rule); simp only [Act.put, List.setIfInBounds_toArray, List.set_cons_zero, List.set_cons_succ]) | ((with_reducible refine wpList_store_ob 61 (.tmp 3) w2.heap.size nilRule nilRule 61 ?_ ?_ ?_ ?_ ?_ ?_ ?_); (exact rfl); (exact rfl); (exact (HS1.out.put 61 nilRule).get 1 rfl); (exact info_rule); (exact rfl); (exact one_nil); skip))
  go_ret
  exact ⟨ret_bool (by rw [HE.out, hk]; rfl), HS2.out.old⟩
set_option maxHeartbeats 4000000 in
theorem valid_yes' (e : Ent) (w : World) (he : GoodEn e) (hk : kindB e.kind = true) : Calls Try.prog 14 #[.agg (enCells e).toArray] w fun r w' => r = .returned (.bool (entOkB e)) ∧ Below w.heap.size w w' := by
  have HE : Hid (entOkB e = (kindB e.kind && (decide (1 ≤ e.lsn) && (decide (e.lsn ≤ 1099511627776) && (befB e.ptx e.lsn && (befB e.ppg e.lsn && (befB e.ref e.lsn && ((ruleF e.kind).p0 e.tx && ((ruleF e.kind).p1 e.ptx && ((ruleF e.kind).p2 e.ppg && ((ruleF e.kind).p3 e.ref e.ptx && ((ruleF e.kind).p4 e.ch && (ruleF e.kind).p5 e.blob)))))))))))) := rfl
  have HC := Lib.hid he.ch
  have HBl := Lib.hid he.blob
  clear he
  have h1 := (Hp.start w).put 28 (enCells e)
  have HS0 : Hid (Hp w [.ob w.heap.size 28 (enCells e)] (w.alloc (.cells (enCells e).toArray 28))) := h1
  clear h1
  have e1 : (w.alloc (.cells (enCells e).toArray 28)).cell? ⟨w.heap.size, 1, none⟩ = some (.int .i64 e.kind) := HS0.out.at 0 rfl 1 rfl
  go_enter Try.func14, Try.ntmps14
  go_wp2_with fail
  refine (ruleOf_yes e.kind _ hk).mono ?_
  rintro r w2 ⟨g, hr, rfl, hb⟩
  have HS1 : Hid (Hp w [.ob w.heap.size 28 (enCells e)] w2) := HS0.out.calls hb
  have HR := Lib.hid hr
  clear hb e1 HS0 hr
  have HS2 : Hid (Hp w [.ob w.heap.size 28 (enCells e), .ob w2.heap.size 61 (ruleCells g)] ((w2.alloc (.cells nilRule.toArray 61)).setRow w2.heap.size (ruleCells g).toArray)) := (HS1.out.put 61 nilRule).row 1 rfl (ruleCells g)
  by_cases a1 : 1 ≤ e.lsn
  case neg =>
    go_wp2_with (first | ((with_reducible refine wpList_alloc_ob 61 nilRule ?_ ?_); (exact alloc_rule); simp only [Act.put, List.setIfInBounds_toArray, List.set_cons_zero, List.set_cons_succ]) | ((with_reducible refine wpList_store_ob 61 (.tmp 3) w2.heap.size (ruleCells g) nilRule 61 ?_ ?_ ?_ ?_ ?_ ?_ ?_); (exact rfl); (exact rfl); (exact (HS1.out.put 61 nilRule).get 1 rfl); (exact info_rule); (exact rfl); (exact (one_rule _)); (generalize (w2.alloc (.cells nilRule.toArray 61)).setRow w2.heap.size (ruleCells g).toArray = w3 at *); have e0 : w3.cell? ⟨w.heap.size, 0, none⟩ = some (.int .i64 e.lsn) := HS2.out.at 0 rfl 0 rfl; have e2 : w3.cell? ⟨w.heap.size, 2, none⟩ = some (.int .i64 e.tx) := HS2.out.at 0 rfl 2 rfl; have e3 : w3.cell? ⟨w.heap.size, 3, none⟩ = some (.int .i64 e.ptx) := HS2.out.at 0 rfl 3 rfl; have e4 : w3.cell? ⟨w.heap.size, 4, none⟩ = some (.int .i64 e.ppg) := HS2.out.at 0 rfl 4 rfl; have e5 : w3.cell? ⟨w.heap.size, 5, none⟩ = some (.int .i64 e.ref) := HS2.out.at 0 rfl 5 rfl; have e6 : w3.cell? ⟨w.heap.size, 6, none⟩ = some (.int .i64 e.ch.page) := HS2.out.at 0 rfl 6 rfl; have e7 : w3.cell? ⟨w.heap.size, 7, none⟩ = some (.int .i64 e.ch.slot) := HS2.out.at 0 rfl 7 rfl; have e8 : w3.cell? ⟨w.heap.size, 8, none⟩ = some (.bool e.ch.before.set) := HS2.out.at 0 rfl 8 rfl; have e9 : w3.cell? ⟨w.heap.size, 9, none⟩ = some (.string e.ch.before.data) := HS2.out.at 0 rfl 9 rfl; have e10 : w3.cell? ⟨w.heap.size, 10, none⟩ = some (.bool e.ch.after.set) := HS2.out.at 0 rfl 10 rfl; have e11 : w3.cell? ⟨w.heap.size, 11, none⟩ = some (.string e.ch.after.data) := HS2.out.at 0 rfl 11 rfl; have r0 : w3.cell? ⟨w2.heap.size, 0, none⟩ = some (.func (.func g.g0) #[] #[]) := HS2.out.at 1 rfl 0 rfl; have eg0 : ∀ args w, (callFunc g.g0 args).run Try.prog w = .ok (.enter g.g0 args) w := HR.out.e0; have r1 : w3.cell? ⟨w2.heap.size, 1, none⟩ = some (.func (.func g.g1) #[] #[]) := HS2.out.at 1 rfl 1 rfl; have eg1 : ∀ args w, (callFunc g.g1 args).run Try.prog w = .ok (.enter g.g1 args) w := HR.out.e1; have r2 : w3.cell? ⟨w2.heap.size, 2, none⟩ = some (.func (.func g.g2) #[] #[]) := HS2.out.at 1 rfl 2 rfl; have eg2 : ∀ args w, (callFunc g.g2 args).run Try.prog w = .ok (.enter g.g2 args) w := HR.out.e2; have r3 : w3.cell? ⟨w2.heap.size, 3, none⟩ = some (.func (.func g.g3) #[] #[]) := HS2.out.at 1 rfl 3 rfl; have eg3 : ∀ args w, (callFunc g.g3 args).run Try.prog w = .ok (.enter g.g3 args) w := HR.out.e3; have r4 : w3.cell? ⟨w2.heap.size, 4, none⟩ = some (.func (.func g.g4) #[] #[]) := HS2.out.at 1 rfl 4 rfl; have eg4 : ∀ args w, (callFunc g.g4 args).run Try.prog w = .ok (.enter g.g4 args) w := HR.out.e4))
    go_ret
    exact ⟨ret_bool (by rw [HE.out]; simp [hk, show ¬ (1 ≤ e.lsn) by omega]), HS2.out.old⟩
  case pos =>
    by_cases a2 : e.lsn ≤ 1099511627776
    case neg =>
      go_wp2_with (first | ((with_reducible refine wpList_alloc_ob 61 nilRule ?_ ?_); (exact alloc_rule); simp only [Act.put, List.setIfInBounds_toArray, List.set_cons_zero, List.set_cons_succ]) | ((with_reducible refine wpList_store_ob 61 (.tmp 3) w2.heap.size (ruleCells g) nilRule 61 ?_ ?_ ?_ ?_ ?_ ?_ ?_); (exact rfl); (exact rfl); (exact (HS1.out.put 61 nilRule).get 1 rfl); (exact info_rule); (exact rfl); (exact (one_rule _)); (generalize (w2.alloc (.cells nilRule.toArray 61)).setRow w2.heap.size (ruleCells g).toArray = w3 at *); have e0 : w3.cell? ⟨w.heap.size, 0, none⟩ = some (.int .i64 e.lsn) := HS2.out.at 0 rfl 0 rfl; have e2 : w3.cell? ⟨w.heap.size, 2, none⟩ = some (.int .i64 e.tx) := HS2.out.at 0 rfl 2 rfl; have e3 : w3.cell? ⟨w.heap.size, 3, none⟩ = some (.int .i64 e.ptx) := HS2.out.at 0 rfl 3 rfl; have e4 : w3.cell? ⟨w.heap.size, 4, none⟩ = some (.int .i64 e.ppg) := HS2.out.at 0 rfl 4 rfl; have e5 : w3.cell? ⟨w.heap.size, 5, none⟩ = some (.int .i64 e.ref) := HS2.out.at 0 rfl 5 rfl; have e6 : w3.cell? ⟨w.heap.size, 6, none⟩ = some (.int .i64 e.ch.page) := HS2.out.at 0 rfl 6 rfl; have e7 : w3.cell? ⟨w.heap.size, 7, none⟩ = some (.int .i64 e.ch.slot) := HS2.out.at 0 rfl 7 rfl; have e8 : w3.cell? ⟨w.heap.size, 8, none⟩ = some (.bool e.ch.before.set) := HS2.out.at 0 rfl 8 rfl; have e9 : w3.cell? ⟨w.heap.size, 9, none⟩ = some (.string e.ch.before.data) := HS2.out.at 0 rfl 9 rfl; have e10 : w3.cell? ⟨w.heap.size, 10, none⟩ = some (.bool e.ch.after.set) := HS2.out.at 0 rfl 10 rfl; have e11 : w3.cell? ⟨w.heap.size, 11, none⟩ = some (.string e.ch.after.data) := HS2.out.at 0 rfl 11 rfl; have r0 : w3.cell? ⟨w2.heap.size, 0, none⟩ = some (.func (.func g.g0) #[] #[]) := HS2.out.at 1 rfl 0 rfl; have eg0 : ∀ args w, (callFunc g.g0 args).run Try.prog w = .ok (.enter g.g0 args) w := HR.out.e0; have r1 : w3.cell? ⟨w2.heap.size, 1, none⟩ = some (.func (.func g.g1) #[] #[]) := HS2.out.at 1 rfl 1 rfl; have eg1 : ∀ args w, (callFunc g.g1 args).run Try.prog w = .ok (.enter g.g1 args) w := HR.out.e1; have r2 : w3.cell? ⟨w2.heap.size, 2, none⟩ = some (.func (.func g.g2) #[] #[]) := HS2.out.at 1 rfl 2 rfl; have eg2 : ∀ args w, (callFunc g.g2 args).run Try.prog w = .ok (.enter g.g2 args) w := HR.out.e2; have r3 : w3.cell? ⟨w2.heap.size, 3, none⟩ = some (.func (.func g.g3) #[] #[]) := HS2.out.at 1 rfl 3 rfl; have eg3 : ∀ args w, (callFunc g.g3 args).run Try.prog w = .ok (.enter g.g3 args) w := HR.out.e3; have r4 : w3.cell? ⟨w2.heap.size, 4, none⟩ = some (.func (.func g.g4) #[] #[]) := HS2.out.at 1 rfl 4 rfl; have eg4 : ∀ args w, (callFunc g.g4 args).run Try.prog w = .ok (.enter g.g4 args) w := HR.out.e4))
      go_ret
      exact ⟨ret_bool (by rw [HE.out]; simp [hk, a1, show ¬ (e.lsn ≤ 1099511627776) by omega]), HS2.out.old⟩
    case pos =>
      go_wp2_with (first | ((with_reducible refine wpList_alloc_ob 61 nilRule ?_ ?_); (exact alloc_rule); simp only [Act.put, List.setIfInBounds_toArray, List.set_cons_zero, List.set_cons_succ]) | ((with_reducible refine wpList_store_ob 61 (.tmp 3) w2.heap.size (ruleCells g) nilRule 61 ?_ ?_ ?_ ?_ ?_ ?_ ?_); (exact rfl); (exact rfl); (exact (HS1.out.put 61 nilRule).get 1 rfl); (exact info_rule); (exact rfl); (exact (one_rule _)); (generalize (w2.alloc (.cells nilRule.toArray 61)).setRow w2.heap.size (ruleCells g).toArray = w3 at *); have e0 : w3.cell? ⟨w.heap.size, 0, none⟩ = some (.int .i64 e.lsn) := HS2.out.at 0 rfl 0 rfl; have e2 : w3.cell? ⟨w.heap.size, 2, none⟩ = some (.int .i64 e.tx) := HS2.out.at 0 rfl 2 rfl; have e3 : w3.cell? ⟨w.heap.size, 3, none⟩ = some (.int .i64 e.ptx) := HS2.out.at 0 rfl 3 rfl; have e4 : w3.cell? ⟨w.heap.size, 4, none⟩ = some (.int .i64 e.ppg) := HS2.out.at 0 rfl 4 rfl; have e5 : w3.cell? ⟨w.heap.size, 5, none⟩ = some (.int .i64 e.ref) := HS2.out.at 0 rfl 5 rfl; have e6 : w3.cell? ⟨w.heap.size, 6, none⟩ = some (.int .i64 e.ch.page) := HS2.out.at 0 rfl 6 rfl; have e7 : w3.cell? ⟨w.heap.size, 7, none⟩ = some (.int .i64 e.ch.slot) := HS2.out.at 0 rfl 7 rfl; have e8 : w3.cell? ⟨w.heap.size, 8, none⟩ = some (.bool e.ch.before.set) := HS2.out.at 0 rfl 8 rfl; have e9 : w3.cell? ⟨w.heap.size, 9, none⟩ = some (.string e.ch.before.data) := HS2.out.at 0 rfl 9 rfl; have e10 : w3.cell? ⟨w.heap.size, 10, none⟩ = some (.bool e.ch.after.set) := HS2.out.at 0 rfl 10 rfl; have e11 : w3.cell? ⟨w.heap.size, 11, none⟩ = some (.string e.ch.after.data) := HS2.out.at 0 rfl 11 rfl; have r0 : w3.cell? ⟨w2.heap.size, 0, none⟩ = some (.func (.func g.g0) #[] #[]) := HS2.out.at 1 rfl 0 rfl; have eg0 : ∀ args w, (callFunc g.g0 args).run Try.prog w = .ok (.enter g.g0 args) w := HR.out.e0; have r1 : w3.cell? ⟨w2.heap.size, 1, none⟩ = some (.func (.func g.g1) #[] #[]) := HS2.out.at 1 rfl 1 rfl; have eg1 : ∀ args w, (callFunc g.g1 args).run Try.prog w = .ok (.enter g.g1 args) w := HR.out.e1; have r2 : w3.cell? ⟨w2.heap.size, 2, none⟩ = some (.func (.func g.g2) #[] #[]) := HS2.out.at 1 rfl 2 rfl; have eg2 : ∀ args w, (callFunc g.g2 args).run Try.prog w = .ok (.enter g.g2 args) w := HR.out.e2; have r3 : w3.cell? ⟨w2.heap.size, 3, none⟩ = some (.func (.func g.g3) #[] #[]) := HS2.out.at 1 rfl 3 rfl; have eg3 : ∀ args w, (callFunc g.g3 args).run Try.prog w = .ok (.enter g.g3 args) w := HR.out.e3; have r4 : w3.cell? ⟨w2.heap.size, 4, none⟩ = some (.func (.func g.g4) #[] #[]) := HS2.out.at 1 rfl 4 rfl; have eg4 : ∀ args w, (callFunc g.g4 args).run Try.prog w = .ok (.enter g.g4 args) w := HR.out.e4))
      refine (before_f _ _ _).mono ?_
      rintro r w' ⟨rfl, rfl⟩
      cases q0 : befB e.ptx e.lsn
      case false =>
        go_wp2_with fail
        go_ret
        exact ⟨ret_bool (by rw [HE.out]; simp [hk, a1, a2, q0]), HS2.out.old⟩
      case true =>
        go_wp2_with fail
        refine (before_f _ _ _).mono ?_
        rintro r w' ⟨rfl, rfl⟩
        cases q1 : befB e.ppg e.lsn
        case false =>
          go_wp2_with fail
          go_ret
          exact ⟨ret_bool (by rw [HE.out]; simp [hk, a1, a2, q0, q1]), HS2.out.old⟩
        case true =>
          go_wp2_with fail
          refine (before_f _ _ _).mono ?_
          rintro r w' ⟨rfl, rfl⟩
          cases q2 : befB e.ref e.lsn
          case false =>
            go_wp2_with fail
            go_ret
            exact ⟨ret_bool (by rw [HE.out]; simp [hk, a1, a2, q0, q1, q2]), HS2.out.old⟩
          case true =>
            go_wp2_with fail
            refine (HR.out.c0 _ _).mono ?_
            rintro r w' ⟨rfl, rfl⟩
            cases q3 : (ruleF e.kind).p0 e.tx
            case false =>
              go_wp2_with fail
              go_ret
              exact ⟨ret_bool (by rw [HE.out]; simp [hk, a1, a2, q0, q1, q2, q3]), HS2.out.old⟩
            case true =>
              go_wp2_with fail
              refine (HR.out.c1 _ _).mono ?_
              rintro r w' ⟨rfl, rfl⟩
              cases q4 : (ruleF e.kind).p1 e.ptx
              case false =>
                go_wp2_with fail
                go_ret
                exact ⟨ret_bool (by rw [HE.out]; simp [hk, a1, a2, q0, q1, q2, q3, q4]), HS2.out.old⟩
              case true =>
                go_wp2_with fail
                refine (HR.out.c2 _ _).mono ?_
                rintro r w' ⟨rfl, rfl⟩
                cases q5 : (ruleF e.kind).p2 e.ppg
                case false =>
                  go_wp2_with fail
                  go_ret
                  exact ⟨ret_bool (by rw [HE.out]; simp [hk, a1, a2, q0, q1, q2, q3, q4, q5]), HS2.out.old⟩
                case true =>
                  go_wp2_with fail
                  refine (HR.out.c3 _ _ _).mono ?_
                  rintro r w' ⟨rfl, rfl⟩
                  cases q6 : (ruleF e.kind).p3 e.ref e.ptx
                  case false =>
                    go_wp2_with fail
                    go_ret
                    exact ⟨ret_bool (by rw [HE.out]; simp [hk, a1, a2, q0, q1, q2, q3, q4, q5, q6]), HS2.out.old⟩
                  case true =>
                    go_wp2_with fail
                    refine (HR.out.c4 e.ch _ HC.out).mono ?_
                    rintro r w4 ⟨rfl, hb⟩
                    have HS3 : Hid (Hp w [.ob w.heap.size 28 (enCells e), .ob w2.heap.size 61 (ruleCells g)] w4) := HS2.out.calls hb
                    clear hb HS2
                    have HS2 := HS3
                    clear HS3
                    have e12 : w4.cell? ⟨w.heap.size, 12, none⟩ = some (.string e.blob) := HS2.out.at 0 rfl 12 rfl
                    have r5 : w4.cell? ⟨w2.heap.size, 5, none⟩ = some (.func (.func g.g5) #[] #[]) := HS2.out.at 1 rfl 5 rfl
                    have eg5 : ∀ args w, (callFunc g.g5 args).run Try.prog w = .ok (.enter g.g5 args) w := HR.out.e5
                    cases q7 : (ruleF e.kind).p4 e.ch
                    case false =>
                      go_wp2_with fail
                      go_ret
                      exact ⟨ret_bool (by rw [HE.out]; simp [hk, a1, a2, q0, q1, q2, q3, q4, q5, q6, q7]), HS2.out.old⟩
                    case true =>
                      go_wp2_with fail
                      refine (HR.out.c5 _ _ HBl.out).mono ?_
                      rintro r w' ⟨rfl, rfl⟩
                      cases q8 : (ruleF e.kind).p5 e.blob
                      case false =>
                        go_wp2_with fail
                        go_ret
                        exact ⟨ret_bool (by rw [HE.out]; simp [hk, a1, a2, q0, q1, q2, q3, q4, q5, q6, q7, q8]), HS2.out.old⟩
                      case true =>
                        go_wp2_with fail
                        go_ret
                        exact ⟨ret_bool (by rw [HE.out]; simp [hk, a1, a2, q0, q1, q2, q3, q4, q5, q6, q7, q8]), HS2.out.old⟩
theorem valid_en (e : Ent) (w : World) (he : GoodEn e) : Calls Try.prog 14 #[.agg (enCells e).toArray] w fun r w' => r = .returned (.bool (entOkB e)) ∧ Below w.heap.size w w' := by
  cases hk : kindB e.kind
  · exact valid_no' e w he hk
  · exact valid_yes' e w he hk
end Go.Proofs.Ytgljhfofikjbdaa
/- the reader of the program: cell, change, entry, and Decode -/
namespace Go.Proofs.Ytgljhfofikjbdaa
open Go.RowKit
set_option maxRecDepth 20000
set_option linter.unusedSimpArgs false
set_option linter.unusedVariables false

theorem numP_range {z : Int} {r r' : Rs} {n : Int} (h1 : 1 ≤ z) (h4 : z ≤ 4) (h : numP z r = (n, r')) : 0 ≤ n ∧ n < 4294967296 := by
  unfold numP at h
  split at h
  · obtain ⟨rfl, _⟩ := Prod.mk.inj h; omega
  · obtain ⟨rfl, _⟩ := Prod.mk.inj h
    have hl := leNum_lt r.rest 0 z.toNat
    have hp : 256 ^ z.toNat ≤ 256 ^ 4 := Nat.pow_le_pow_right (by decide) (by omega)
    have h4 : (256 : Nat) ^ 4 = 4294967296 := by decide
    rw [IntWalk.wrap64_in _ ⟨by omega, by omega⟩]
    omega
def cellRd (r : Rs) : Cl × Rs := if (numP 1 r).1 = 255 then (emptyCl, (numP 1 r).2) else if 12 < (numP 1 r).1 then (emptyCl, failP (numP 1 r).2 4) else (⟨true, (dataP (numP 1 r).1 (numP 1 r).2).1⟩, (dataP (numP 1 r).1 (numP 1 r).2).2)
theorem cellRd_of {r r1 : Rs} {n : Int} (h : numP 1 r = (n, r1)) : cellRd r = if n = 255 then (emptyCl, r1) else if 12 < n then (emptyCl, failP r1 4) else (⟨true, (dataP n r1).1⟩, (dataP n r1).2) := by
  unfold cellRd; rw [h]
def chRd (r : Rs) : Chg × Rs :=
  let a := numP 4 r; let b := numP 1 a.2; let c := cellRd b.2; let d := cellRd c.2
  (⟨a.1, b.1, c.1, d.1⟩, d.2)
def enRd (r : Rs) : Ent × Rs :=
  let a := numP 8 r; let b := numP 1 a.2; let c := numP 4 b.2; let d := numP 8 c.2; let e := numP 8 d.2; let f := numP 8 e.2; let g := chRd f.2; let h := numP 4 g.2; let i := dataP h.1 h.2
  (⟨a.1, b.1, c.1, d.1, e.1, f.1, g.1, i.1⟩, i.2)
theorem chRd_of {r a b c d : Rs} {x y : Int} {u v : Cl} (h1 : numP 4 r = (x, a)) (h2 : numP 1 a = (y, b)) (h3 : cellRd b = (u, c)) (h4 : cellRd c = (v, d)) : chRd r = (⟨x, y, u, v⟩, d) := by
  simp only [chRd, h1, h2, h3, h4]
theorem enRd_of {r a b c d e f g h i : Rs} {x1 x2 x3 x4 x5 x6 x8 : Int} {x7 : Chg} {x9 : ByteArray} (h1 : numP 8 r = (x1, a)) (h2 : numP 1 a = (x2, b)) (h3 : numP 4 b = (x3, c)) (h4 : numP 8 c = (x4, d)) (h5 : numP 8 d = (x5, e)) (h6 : numP 8 e = (x6, f)) (h7 : chRd f = (x7, g)) (h8 : numP 4 g = (x8, h)) (h9 : dataP x8 h = (x9, i)) : enRd r = (⟨x1, x2, x3, x4, x5, x6, x7, x9⟩, i) := by
  simp only [enRd, h1, h2, h3, h4, h5, h6, h7, h8, h9]
theorem cell_read (c : Cl) (h : c.data.size ≤ 1000000000) : c.data.size ≤ maxLen := by unfold maxLen; omega
def CellRd (D : Nat) (r : Rs) (w : World) (e : Ending) (w' : World) : Prop := ∃ c r', e = .returned (.agg (clCells c).toArray) ∧ Hid (cellRd r = (c, r')) ∧ Hid (r'.rest.size ≤ r.rest.size ∧ c.data.size ≤ 1000000000) ∧ RdTo D r' w w'
def ChRd (D : Nat) (r : Rs) (w : World) (e : Ending) (w' : World) : Prop := ∃ c r', e = .returned (.agg (chCells c).toArray) ∧ Hid (chRd r = (c, r')) ∧ Hid (r'.rest.size ≤ r.rest.size ∧ GoodCh c) ∧ RdTo D r' w w'
def EnRdPost (D : Nat) (r : Rs) (w : World) (e : Ending) (w' : World) : Prop := ∃ x r', e = .returned (.agg (enCells x).toArray) ∧ Hid (enRd r = (x, r')) ∧ Hid (r'.rest.size ≤ r.rest.size ∧ GoodEn x) ∧ RdTo D r' w w'
theorem dataP_out {n : Int} {r r' : Rs} {d : ByteArray} (h : dataP n r = (d, r')) (hs : r.rest.size ≤ 1000000000) : d.size ≤ 1000000000 := by
  unfold dataP at h
  split at h
  · obtain ⟨rfl, _⟩ := Prod.mk.inj h; exact Nat.zero_le _
  · obtain ⟨rfl, _⟩ := Prod.mk.inj h
    rw [ByteArray.size_extract]; omega
theorem wrap_wf (n : Int) : (Lit.int .i64 (wrap64 n)).wf = true := by
  rw [← IntWalk.i64_left]
  apply wf_of <;> (rw [IntKind.wrap_i64]; omega)
theorem numP_wf {z : Int} {r r' : Rs} {n : Int} (h : numP z r = (n, r')) : (Lit.int .i64 n).wf = true := by
  unfold numP at h
  split at h
  · obtain ⟨rfl, _⟩ := Prod.mk.inj h; decide
  · obtain ⟨rfl, _⟩ := Prod.mk.inj h; exact wrap_wf _
set_option maxHeartbeats 4000000 in
theorem cellR_any (D : Nat) (r : Rs) (w : World) (h : RdAt w D r) (hs : r.rest.size ≤ 1000000000) : Calls Try.prog 63 #[.pointer (some ⟨D, 0, none⟩)] w (CellRd D r w) := by
  have HSz := Lib.hid hs
  obtain ⟨fsHUL, huHUL⟩ := under_cell
  have HUL := Lib.hid huHUL
  clear huHUL
  have HBl : Hid (∀ d W, Sem.run Try.prog (Instr.build 24 #[(0, .bool true), (1, .string d)]) W = .ok (.agg (clCells ⟨true, d⟩).toArray) W) := fun d W => by kernel_rfl
  have HBe : Hid (∀ W, Sem.run Try.prog (Instr.build 24 #[]) W = .ok (.agg (clCells emptyCl).toArray) W) := fun W => by kernel_rfl
  have h1 := (Tn.start h).put 24 (clCells emptyCl)
  have HS0 : Hid (Tn w D 67 (rdCells r) [⟨w.heap.size, 24, clCells emptyCl⟩] (w.alloc (.cells #[.bool false, .string ⟨#[]⟩] 24))) := h1
  clear h h1 hs
  go_enter Try.func63, Try.ntmps63
  go_upto_region 1 with (fail)
  have HS2 : Hid (Tn w D 67 (rdCells r) [⟨w.heap.size, 24, clCells emptyCl⟩] (w.alloc (.cells #[.bool false, .string ⟨#[]⟩] 24))) := HS0.out
  clear HS0
  generalize w.alloc (.cells #[.bool false, .string ⟨#[]⟩] 24) = w3 at *
  go_wp2_with fail
  refine (number_any D r 1 _ (HS2.out).here (HSz.out) (by omega) (by omega)).mono ?_
  rintro e w4 ⟨n1, r1, rfl, HN1, HZ1, ht⟩
  have HS3 : Hid (Tn w D 67 (rdCells r1) [⟨w.heap.size, 24, clCells emptyCl⟩] w4) := (HS2.out).turns ht
  clear ht
  clear HS2
  obtain ⟨p0, p1⟩ := numP_range (by decide) (by decide) HN1.out
  have HSz1 : Hid (r1.rest.size ≤ 1000000000) := Lib.hid (Nat.le_trans HZ1.out HSz.out)
  by_cases q1 : n1 = 255
  · have HR : Hid (cellRd r = (emptyCl, r1)) := Lib.hid (by rw [cellRd_of HN1.out, if_pos q1])
    obtain rfl := q1
    clear p0 p1
    go_wp2_with (first | ((with_reducible refine wpList_build_v (d := some 9) 24 (.agg (clCells emptyCl).toArray) ?_ ?_); (intro W; simp only [List.map_toArray, List.map_cons, List.map_nil]; exact HBe.out W); simp only [Act.put, List.setIfInBounds_toArray, List.set_cons_zero, List.set_cons_succ]) | ((with_reducible refine wpList_store_ob 24 (.tmp 2) (w.heap.size) (clCells emptyCl) (clCells emptyCl) 24 ?_ ?_ ?_ ?_ ?_ ?_ ?_); (exact rfl); (exact rfl); (exact (HS3.out).get 0 rfl); (exact info_cl); (exact rfl); (exact (oneCell_cl _)); skip))
    have HS4 : Hid (Tn w D 67 (rdCells r1) [⟨w.heap.size, 24, clCells emptyCl⟩] (w4.setRow (w.heap.size) (clCells emptyCl).toArray)) := (HS3.out).row 0 rfl (clCells emptyCl)
    clear HS3
    generalize (w4.setRow (w.heap.size) (clCells emptyCl).toArray) = w5 at *
    refine bodyPost_ret (results_ob Try.results63 _ _ (w.heap.size) (clCells emptyCl) 24 _ rfl ((HS4.out).get 0 rfl) HUL.out rfl info_cl) rfl ?_
    exact ⟨emptyCl, r1, rfl, HR, Lib.hid ⟨HZ1.out, by decide⟩, (HS4.out).turn⟩
  have q1b : (n1 == 255) = false := by rw [beq_eq_false_iff_ne]; exact q1
  by_cases q2 : 12 < n1
  · have HR : Hid (cellRd r = (emptyCl, failP r1 4)) := Lib.hid (by rw [cellRd_of HN1.out, if_neg q1, if_pos q2])
    clear q1 p0 p1
    go_wp2_with fail
    refine (fail_any D r1 4 _ (HS3.out).here).mono ?_
    rintro e w5 ⟨rfl, ht⟩
    have HS4 : Hid (Tn w D 67 (rdCells (failP r1 4)) [⟨w.heap.size, 24, clCells emptyCl⟩] w5) := (HS3.out).turns ht
    clear ht
    clear HS3
    go_wp2_with (first | ((with_reducible refine wpList_build_v (d := some 15) 24 (.agg (clCells emptyCl).toArray) ?_ ?_); (intro W; simp only [List.map_toArray, List.map_cons, List.map_nil]; exact HBe.out W); simp only [Act.put, List.setIfInBounds_toArray, List.set_cons_zero, List.set_cons_succ]) | ((with_reducible refine wpList_store_ob 24 (.tmp 2) (w.heap.size) (clCells emptyCl) (clCells emptyCl) 24 ?_ ?_ ?_ ?_ ?_ ?_ ?_); (exact rfl); (exact rfl); (exact (HS4.out).get 0 rfl); (exact info_cl); (exact rfl); (exact (oneCell_cl _)); skip))
    have HS5 : Hid (Tn w D 67 (rdCells (failP r1 4)) [⟨w.heap.size, 24, clCells emptyCl⟩] (w5.setRow (w.heap.size) (clCells emptyCl).toArray)) := (HS4.out).row 0 rfl (clCells emptyCl)
    clear HS4
    generalize (w5.setRow (w.heap.size) (clCells emptyCl).toArray) = w6 at *
    refine bodyPost_ret (results_ob Try.results63 _ _ (w.heap.size) (clCells emptyCl) 24 _ rfl ((HS5.out).get 0 rfl) HUL.out rfl info_cl) rfl ?_
    exact ⟨emptyCl, failP r1 4, rfl, HR, Lib.hid ⟨by rw [failP_size]; exact HZ1.out, by decide⟩, (HS5.out).turn⟩
  have HR : Hid (∀ d r2, dataP n1 r1 = (d, r2) → cellRd r = (⟨true, d⟩, r2)) := Lib.hid (fun d r2 h => by rw [cellRd_of HN1.out, if_neg q1, if_neg q2, h])
  clear q1
  go_wp2_with fail
  refine (dataR_any D r1 n1 _ (HS3.out).here (HSz1.out) p0).mono ?_
  rintro e w5 ⟨d, r2, rfl, HN2, HZ2, ht⟩
  have HS4 : Hid (Tn w D 67 (rdCells r2) [⟨w.heap.size, 24, clCells emptyCl⟩] w5) := (HS3.out).turns ht
  clear ht
  clear HS3
  go_wp2_with (first | ((with_reducible refine wpList_build_v (d := some 19) 24 (.agg (clCells ⟨true, d⟩).toArray) ?_ ?_); (intro W; simp only [List.map_toArray, List.map_cons, List.map_nil]; exact HBl.out d W); simp only [Act.put, List.setIfInBounds_toArray, List.set_cons_zero, List.set_cons_succ]) | ((with_reducible refine wpList_store_ob 24 (.tmp 2) (w.heap.size) (clCells ⟨true, d⟩) (clCells emptyCl) 24 ?_ ?_ ?_ ?_ ?_ ?_ ?_); (exact rfl); (exact rfl); (exact (HS4.out).get 0 rfl); (exact info_cl); (exact rfl); (exact (oneCell_cl _)); skip))
  have HS5 : Hid (Tn w D 67 (rdCells r2) [⟨w.heap.size, 24, clCells ⟨true, d⟩⟩] (w5.setRow (w.heap.size) (clCells ⟨true, d⟩).toArray)) := (HS4.out).row 0 rfl (clCells ⟨true, d⟩)
  clear HS4
  generalize (w5.setRow (w.heap.size) (clCells ⟨true, d⟩).toArray) = w6 at *
  refine bodyPost_ret (results_ob Try.results63 _ _ (w.heap.size) (clCells ⟨true, d⟩) 24 _ rfl ((HS5.out).get 0 rfl) HUL.out rfl info_cl) rfl ?_
  exact ⟨⟨true, d⟩, r2, rfl, Lib.hid (HR.out _ _ HN2.out), Lib.hid ⟨Nat.le_trans HZ2.out HZ1.out, dataP_out HN2.out HSz1.out⟩, (HS5.out).turn⟩
theorem build_chg (a b : Int) (x y : Cl) (W : World) : Sem.run Try.prog (Instr.build 26 #[(0, .int .i64 a), (1, .int .i64 b), (2, .agg (clCells x).toArray), (3, .agg (clCells y).toArray)]) W = .ok (.agg (chCells ⟨a, b, x, y⟩).toArray) W := by kernel_rfl
theorem build_ent (a b c d e f : Int) (x : Chg) (s : ByteArray) (W : World) : Sem.run Try.prog (Instr.build 28 #[(0, .int .i64 a), (1, .int .i64 b), (2, .int .i64 c), (3, .int .i64 d), (4, .int .i64 e), (5, .int .i64 f), (6, .agg (chCells x).toArray), (7, .string s)]) W = .ok (.agg (enCells ⟨a, b, c, d, e, f, x, s⟩).toArray) W := by kernel_rfl
theorem build_nil (W : World) : Sem.run Try.prog (Instr.build 28 #[]) W = .ok (.agg (enCells enNil).toArray) W := by kernel_rfl
set_option maxHeartbeats 4000000 in
theorem changeR_any (D : Nat) (r : Rs) (w : World) (h : RdAt w D r) (hs : r.rest.size ≤ 1000000000) : Calls Try.prog 54 #[.pointer (some ⟨D, 0, none⟩)] w (ChRd D r w) := by
  have HSz := Lib.hid hs
  obtain ⟨fsHUC, huHUC⟩ := under_ch
  have HUC := Lib.hid huHUC
  clear huHUC
  have h1 := (Tn.start h).put 26 (chCells chNil)
  have HS0 : Hid (Tn w D 67 (rdCells r) [⟨w.heap.size, 26, chCells chNil⟩] (w.alloc (.cells #[.int .i64 0, .int .i64 0, .bool false, .string ⟨#[]⟩, .bool false, .string ⟨#[]⟩] 26))) := h1
  clear h h1 hs
  go_enter Try.func54, Try.ntmps54
  go_upto_region 1 with (fail)
  have HS2 : Hid (Tn w D 67 (rdCells r) [⟨w.heap.size, 26, chCells chNil⟩] (w.alloc (.cells #[.int .i64 0, .int .i64 0, .bool false, .string ⟨#[]⟩, .bool false, .string ⟨#[]⟩] 26))) := HS0.out
  clear HS0
  generalize w.alloc (.cells #[.int .i64 0, .int .i64 0, .bool false, .string ⟨#[]⟩, .bool false, .string ⟨#[]⟩] 26) = w3 at *
  go_wp2_with fail
  refine (number_any D r 4 _ (HS2.out).here HSz.out (by omega) (by omega)).mono ?_
  rintro e w4 ⟨n1, r1, rfl, HN1, HZ1, ht⟩
  have HS3 : Hid (Tn w D 67 (rdCells r1) [⟨w.heap.size, 26, chCells chNil⟩] w4) := (HS2.out).turns ht
  clear ht
  clear HS2
  have HSz1 : Hid (r1.rest.size ≤ 1000000000) := Lib.hid (Nat.le_trans HZ1.out HSz.out)
  go_wp2_with fail
  refine (number_any D r1 1 _ (HS3.out).here HSz1.out (by omega) (by omega)).mono ?_
  rintro e w5 ⟨n2, r2, rfl, HN2, HZ2, ht⟩
  have HS4 : Hid (Tn w D 67 (rdCells r2) [⟨w.heap.size, 26, chCells chNil⟩] w5) := (HS3.out).turns ht
  clear ht
  clear HS3
  have HSz2 : Hid (r2.rest.size ≤ 1000000000) := Lib.hid (Nat.le_trans HZ2.out HSz1.out)
  go_wp2_with fail
  refine (cellR_any D r2 _ (HS4.out).here HSz2.out).mono ?_
  rintro e w6 ⟨x3, r3, rfl, HN3, HZ3, ht⟩
  have HS5 : Hid (Tn w D 67 (rdCells r3) [⟨w.heap.size, 26, chCells chNil⟩] w6) := (HS4.out).turns ht
  clear ht
  clear HS4
  have HSz3 : Hid (r3.rest.size ≤ 1000000000) := Lib.hid (Nat.le_trans HZ3.out.1 HSz2.out)
  go_wp2_with fail
  refine (cellR_any D r3 _ (HS5.out).here HSz3.out).mono ?_
  rintro e w7 ⟨x4, r4, rfl, HN4, HZ4, ht⟩
  have HS6 : Hid (Tn w D 67 (rdCells r4) [⟨w.heap.size, 26, chCells chNil⟩] w7) := (HS5.out).turns ht
  clear ht
  clear HS5
  have HSz4 : Hid (r4.rest.size ≤ 1000000000) := Lib.hid (Nat.le_trans HZ4.out.1 HSz3.out)
  go_wp2_with (first | ((with_reducible refine wpList_build_v (d := some 11) 26 (.agg (chCells ⟨n1, n2, x3, x4⟩).toArray) ?_ ?_); (intro W; simp only [List.map_toArray, List.map_cons, List.map_nil]; exact build_chg n1 n2 x3 x4 W); simp only [Act.put, List.setIfInBounds_toArray, List.set_cons_zero, List.set_cons_succ]) | ((with_reducible refine wpList_store_ob 26 (.tmp 2) (w.heap.size) (chCells ⟨n1, n2, x3, x4⟩) (chCells chNil) 26 ?_ ?_ ?_ ?_ ?_ ?_ ?_); (exact rfl); (exact rfl); (exact (HS6.out).get 0 rfl); (exact info_ch); (exact rfl); (exact (oneCell_ch _)); skip))
  have HS7 : Hid (Tn w D 67 (rdCells r4) [⟨w.heap.size, 26, chCells ⟨n1, n2, x3, x4⟩⟩] (w7.setRow (w.heap.size) (chCells ⟨n1, n2, x3, x4⟩).toArray)) := (HS6.out).row 0 rfl (chCells ⟨n1, n2, x3, x4⟩)
  clear HS6
  generalize (w7.setRow (w.heap.size) (chCells ⟨n1, n2, x3, x4⟩).toArray) = w8 at *
  refine bodyPost_ret (results_ob Try.results54 _ _ (w.heap.size) (chCells ⟨n1, n2, x3, x4⟩) 26 _ rfl ((HS7.out).get 0 rfl) HUC.out rfl info_ch) rfl ?_
  exact ⟨⟨n1, n2, x3, x4⟩, r4, rfl, Lib.hid (chRd_of HN1.out HN2.out HN3.out HN4.out), Lib.hid ⟨Nat.le_trans HZ4.out.1 (Nat.le_trans HZ3.out.1 (Nat.le_trans HZ2.out HZ1.out)), ⟨numP_wf HN1.out, numP_wf HN2.out, cell_read _ HZ3.out.2, cell_read _ HZ4.out.2⟩⟩, (HS7.out).turn⟩
set_option maxHeartbeats 4000000 in
theorem entryR_any (D : Nat) (r : Rs) (w : World) (h : RdAt w D r) (hs : r.rest.size ≤ 1000000000) : Calls Try.prog 34 #[.pointer (some ⟨D, 0, none⟩)] w (EnRdPost D r w) := by
  have HSz := Lib.hid hs
  obtain ⟨fsHUE, huHUE⟩ := under_en
  have HUE := Lib.hid huHUE
  clear huHUE
  have h1 := (Tn.start h).put 28 (enCells enNil)
  have HS0 : Hid (Tn w D 67 (rdCells r) [⟨w.heap.size, 28, enCells enNil⟩] (w.alloc (.cells #[.int .i64 0, .int .i64 0, .int .i64 0, .int .i64 0, .int .i64 0, .int .i64 0, .int .i64 0, .int .i64 0, .bool false, .string ⟨#[]⟩, .bool false, .string ⟨#[]⟩, .string ⟨#[]⟩] 28))) := h1
  clear h h1 hs
  go_enter Try.func34, Try.ntmps34
  go_upto_region 1 with (fail)
  have HS2 : Hid (Tn w D 67 (rdCells r) [⟨w.heap.size, 28, enCells enNil⟩] (w.alloc (.cells #[.int .i64 0, .int .i64 0, .int .i64 0, .int .i64 0, .int .i64 0, .int .i64 0, .int .i64 0, .int .i64 0, .bool false, .string ⟨#[]⟩, .bool false, .string ⟨#[]⟩, .string ⟨#[]⟩] 28))) := HS0.out
  clear HS0
  generalize w.alloc (.cells #[.int .i64 0, .int .i64 0, .int .i64 0, .int .i64 0, .int .i64 0, .int .i64 0, .int .i64 0, .int .i64 0, .bool false, .string ⟨#[]⟩, .bool false, .string ⟨#[]⟩, .string ⟨#[]⟩] 28) = w3 at *
  go_wp2_with fail
  refine (number_any D r 8 _ (HS2.out).here HSz.out (by omega) (by omega)).mono ?_
  rintro e w4 ⟨n1, r1, rfl, HN1, HZ1, ht⟩
  have HS3 : Hid (Tn w D 67 (rdCells r1) [⟨w.heap.size, 28, enCells enNil⟩] w4) := (HS2.out).turns ht
  clear ht
  clear HS2
  have HSz1 : Hid (r1.rest.size ≤ 1000000000) := Lib.hid (Nat.le_trans HZ1.out HSz.out)
  go_wp2_with fail
  refine (number_any D r1 1 _ (HS3.out).here HSz1.out (by omega) (by omega)).mono ?_
  rintro e w5 ⟨n2, r2, rfl, HN2, HZ2, ht⟩
  have HS4 : Hid (Tn w D 67 (rdCells r2) [⟨w.heap.size, 28, enCells enNil⟩] w5) := (HS3.out).turns ht
  clear ht
  clear HS3
  have HSz2 : Hid (r2.rest.size ≤ 1000000000) := Lib.hid (Nat.le_trans HZ2.out HSz1.out)
  go_wp2_with fail
  refine (number_any D r2 4 _ (HS4.out).here HSz2.out (by omega) (by omega)).mono ?_
  rintro e w6 ⟨n3, r3, rfl, HN3, HZ3, ht⟩
  have HS5 : Hid (Tn w D 67 (rdCells r3) [⟨w.heap.size, 28, enCells enNil⟩] w6) := (HS4.out).turns ht
  clear ht
  clear HS4
  have HSz3 : Hid (r3.rest.size ≤ 1000000000) := Lib.hid (Nat.le_trans HZ3.out HSz2.out)
  go_wp2_with fail
  refine (number_any D r3 8 _ (HS5.out).here HSz3.out (by omega) (by omega)).mono ?_
  rintro e w7 ⟨n4, r4, rfl, HN4, HZ4, ht⟩
  have HS6 : Hid (Tn w D 67 (rdCells r4) [⟨w.heap.size, 28, enCells enNil⟩] w7) := (HS5.out).turns ht
  clear ht
  clear HS5
  have HSz4 : Hid (r4.rest.size ≤ 1000000000) := Lib.hid (Nat.le_trans HZ4.out HSz3.out)
  go_wp2_with fail
  refine (number_any D r4 8 _ (HS6.out).here HSz4.out (by omega) (by omega)).mono ?_
  rintro e w8 ⟨n5, r5, rfl, HN5, HZ5, ht⟩
  have HS7 : Hid (Tn w D 67 (rdCells r5) [⟨w.heap.size, 28, enCells enNil⟩] w8) := (HS6.out).turns ht
  clear ht
  clear HS6
  have HSz5 : Hid (r5.rest.size ≤ 1000000000) := Lib.hid (Nat.le_trans HZ5.out HSz4.out)
  go_wp2_with fail
  refine (number_any D r5 8 _ (HS7.out).here HSz5.out (by omega) (by omega)).mono ?_
  rintro e w9 ⟨n6, r6, rfl, HN6, HZ6, ht⟩
  have HS8 : Hid (Tn w D 67 (rdCells r6) [⟨w.heap.size, 28, enCells enNil⟩] w9) := (HS7.out).turns ht
  clear ht
  clear HS7
  have HSz6 : Hid (r6.rest.size ≤ 1000000000) := Lib.hid (Nat.le_trans HZ6.out HSz5.out)
  go_wp2_with fail
  refine (changeR_any D r6 _ (HS8.out).here HSz6.out).mono ?_
  rintro e w10 ⟨x7, r7, rfl, HN7, HZ7, ht⟩
  have HS9 : Hid (Tn w D 67 (rdCells r7) [⟨w.heap.size, 28, enCells enNil⟩] w10) := (HS8.out).turns ht
  clear ht
  clear HS8
  have HSz7 : Hid (r7.rest.size ≤ 1000000000) := Lib.hid (Nat.le_trans HZ7.out.1 HSz6.out)
  go_wp2_with fail
  refine (number_any D r7 4 _ (HS9.out).here HSz7.out (by omega) (by omega)).mono ?_
  rintro e w11 ⟨n8, r8, rfl, HN8, HZ8, ht⟩
  have HS10 : Hid (Tn w D 67 (rdCells r8) [⟨w.heap.size, 28, enCells enNil⟩] w11) := (HS9.out).turns ht
  clear ht
  clear HS9
  have HSz8 : Hid (r8.rest.size ≤ 1000000000) := Lib.hid (Nat.le_trans HZ8.out HSz7.out)
  go_wp2_with fail
  refine (dataR_any D r8 n8 _ (HS10.out).here HSz8.out (numP_range (by decide) (by decide) HN8.out).1).mono ?_
  rintro e w12 ⟨x9, r9, rfl, HN9, HZ9, ht⟩
  have HS11 : Hid (Tn w D 67 (rdCells r9) [⟨w.heap.size, 28, enCells enNil⟩] w12) := (HS10.out).turns ht
  clear ht
  clear HS10
  go_wp2_with (first | ((with_reducible refine wpList_build_v (d := some 21) 28 (.agg (enCells ⟨n1, n2, n3, n4, n5, n6, x7, x9⟩).toArray) ?_ ?_); (intro W; simp only [List.map_toArray, List.map_cons, List.map_nil]; exact build_ent n1 n2 n3 n4 n5 n6 x7 x9 W); simp only [Act.put, List.setIfInBounds_toArray, List.set_cons_zero, List.set_cons_succ]) | ((with_reducible refine wpList_store_ob 28 (.tmp 2) (w.heap.size) (enCells ⟨n1, n2, n3, n4, n5, n6, x7, x9⟩) (enCells enNil) 28 ?_ ?_ ?_ ?_ ?_ ?_ ?_); (exact rfl); (exact rfl); (exact (HS11.out).get 0 rfl); (exact info_en); (exact rfl); (exact (oneCell_en _)); skip))
  have HS12 : Hid (Tn w D 67 (rdCells r9) [⟨w.heap.size, 28, enCells ⟨n1, n2, n3, n4, n5, n6, x7, x9⟩⟩] (w12.setRow (w.heap.size) (enCells ⟨n1, n2, n3, n4, n5, n6, x7, x9⟩).toArray)) := (HS11.out).row 0 rfl (enCells ⟨n1, n2, n3, n4, n5, n6, x7, x9⟩)
  clear HS11
  generalize (w12.setRow (w.heap.size) (enCells ⟨n1, n2, n3, n4, n5, n6, x7, x9⟩).toArray) = w13 at *
  refine bodyPost_ret (results_ob Try.results34 _ _ (w.heap.size) (enCells ⟨n1, n2, n3, n4, n5, n6, x7, x9⟩) 28 _ rfl ((HS12.out).get 0 rfl) HUE.out rfl info_en) rfl ?_
  exact ⟨⟨n1, n2, n3, n4, n5, n6, x7, x9⟩, r9, rfl, Lib.hid (enRd_of HN1.out HN2.out HN3.out HN4.out HN5.out HN6.out HN7.out HN8.out HN9.out), Lib.hid ⟨by have a1 := HZ1.out; have a2 := HZ2.out; have a3 := HZ3.out; have a4 := HZ4.out; have a5 := HZ5.out; have a6 := HZ6.out; have a7 := HZ7.out.1; have a8 := HZ8.out; have a9 := HZ9.out; omega, ⟨numP_wf HN1.out, numP_wf HN2.out, numP_wf HN3.out, numP_wf HN4.out, numP_wf HN5.out, numP_wf HN6.out, HZ7.out.2, by have := dataP_out HN9.out HSz8.out; show x9.size ≤ maxLen; unfold maxLen; omega⟩⟩, (HS12.out).turn⟩
end Go.Proofs.Ytgljhfofikjbdaa
/- a part of an object is stored -/
namespace Go.Proofs.Ytgljhfofikjbdaa
open Go.RowKit
set_option maxRecDepth 20000

theorem run_storeAt_fld (w : World) (b off : Nat) (ty t0 : TypeId) (v : Value) (vs zs ws : List Value) (hv : v.cells = vs.toArray) (hg : w.heap[b]? = some (.cells zs.toArray t0 (0, 0))) (hl : off + vs.length ≤ zs.length)
    (hi : (Try.prog.info? ty).map (·.size) = some vs.length) (h1 : vs.toArray.all (·.oneCell') = true) (hw : zs.take off ++ vs ++ zs.drop (off + vs.length) = ws) :
    (Instr.storeAt ty (.pointer (some ⟨b, off, none⟩)) v).run Try.prog w = .ok () (w.setRow b ws.toArray) := by
  have h := run_storeCells_at Try.prog b off t0 vs 0 zs.toArray w hg (by simpa using hl) (fun v hv => (Array.all_eq_true_iff_forall_mem.1 h1) v (by simpa using hv))
  simp only [Nat.add_zero] at h
  cases hq : Try.prog.info? ty with
  | none => simp [hq] at hi
  | some i =>
    have hs : vs.length = i.size := by simp [hq] at hi; omega
    subst hw
    simp only [Instr.storeAt, Instr.sureAddr, Sem.run_bind, Sem.run_pure, Result.andThen_ok]
    simp [storeVar, sizeOf, typeInfo, hq, hv, hs, h]
theorem wp_store_fld {o : Oper} {a : Act} {w : World} {K : Act → World → Prop} {Q : Exit → Act → World → Prop} (ty : TypeId) (x y : Operand) (b off : Nat) (v : Value) (vs zs ws : List Value) (t0 : TypeId) (ho : o.op = .store ty x y) (hd : o.dst = none)
    (hx : a.eval x = .pointer (some ⟨b, off, none⟩)) (hy : a.eval y = v) (hv : v.cells = vs.toArray) (hg : w.heap[b]? = some (.cells zs.toArray t0 (0, 0))) (hl : off + vs.length ≤ zs.length)
    (hi : (Try.prog.info? ty).map (·.size) = some vs.length) (h1 : vs.toArray.all (·.oneCell') = true) (hw : zs.take off ++ vs ++ zs.drop (off + vs.length) = ws)
    (h : K a (w.setRow b ws.toArray)) : o.wp Try.prog a w K Q := by
  have := run_storeAt_fld w b off ty t0 v vs zs ws hv hg hl hi h1 hw
  unfold Oper.wp execOp
  simp only [ho, hx, hy, Sem.run_bind, Sem.run_pure, Result.andThen_ok, this]
  show K (a.put o.dst undef) _
  rw [hd]
  exact h
theorem wpList_store_fld (ty : TypeId) (x : Operand) (y : Operand) {ops : Array Oper} {rest : List Oper} {a : Act} {w : World} {Q : Exit → Act → World → Prop} {tt : TypeId} {pos : String} {aft : Array Edge}
    (b off : Nat) (v : Value) (vs zs ws : List Value) (t0 : TypeId)
    (hx : a.eval x = .pointer (some ⟨b, off, none⟩)) (hy : a.eval y = v) (hv : v.cells = vs.toArray) (hg : w.heap[b]? = some (.cells zs.toArray t0 (0, 0))) (hl : off + vs.length ≤ zs.length)
    (hi : (Try.prog.info? ty).map (·.size) = some vs.length) (h1 : vs.toArray.all (·.oneCell') = true) (hw : zs.take off ++ vs ++ zs.drop (off + vs.length) = ws)
    (h : wpList Try.prog ops Q rest a (w.setRow b ws.toArray)) :
    wpList Try.prog ops Q ({ dst := none, op := .store ty x y, type := tt, pos := pos, after := aft, guard := none } :: rest) a w :=
  wpList_plain rfl fun _ hK => wp_store_fld ty x y b off v vs zs ws t0 rfl rfl hx hy hv hg hl hi h1 hw (hK _ _ h)
theorem info_int1 : (Try.prog.info? 3).map (·.size) = some 1 := by kernel_rfl
theorem info_str1 : (Try.prog.info? 9).map (·.size) = some 1 := by kernel_rfl
theorem info_bool1 : (Try.prog.info? 4).map (·.size) = some 1 := by kernel_rfl
theorem one_int (k : IntKind) (n : Int) : ([Value.int k n]).toArray.all (·.oneCell') = true := by kernel_rfl
theorem one_str (s : ByteArray) : ([Value.string s]).toArray.all (·.oneCell') = true := by kernel_rfl
theorem one_bool (s : Bool) : ([Value.bool s]).toArray.all (·.oneCell') = true := by kernel_rfl
end Go.Proofs.Ytgljhfofikjbdaa
/- the walk of the reference's shape of an entry -/
namespace Go.Proofs.Ytgljhfofikjbdaa
open Go.RowKit
set_option maxRecDepth 20000
set_option linter.unusedSimpArgs false
set_option linter.unusedVariables false

theorem mid_6 (e : Ent) : ∀ j v, (chCells e.ch)[j]? = some v → (enCells e)[6 + j]? = some v
  | 0, _, h => h | 1, _, h => h | 2, _, h => h | 3, _, h => h | 4, _, h => h | 5, _, h => h | j + 6, v, h => by simp [chCells] at h
theorem mid_8 (e : Ent) : ∀ j v, (clCells e.ch.before)[j]? = some v → (enCells e)[8 + j]? = some v
  | 0, _, h => h | 1, _, h => h | j + 2, v, h => by simp [clCells] at h
theorem mid_10 (e : Ent) : ∀ j v, (clCells e.ch.after)[j]? = some v → (enCells e)[10 + j]? = some v
  | 0, _, h => h | 1, _, h => h | j + 2, v, h => by simp [clCells] at h
theorem build_two (l k : Int) (W : World) : Sem.run Try.prog (Instr.build 28 #[(0, .int .i64 l), (1, .int .i64 k)]) W = .ok (.agg (enCells ⟨l, k, 0, 0, 0, 0, chNil, emptyS⟩).toArray) W := by kernel_rfl
def ShPost (e : Ent) (w : World) (r : Ending) (w' : World) : Prop := r = .returned (.tuple #[.agg (enCells (shapeE e)).toArray, .bool (shapeB e)]) ∧ Below w.heap.size w w'
theorem ShPost.mk {e x : Ent} {b : Bool} {w w' : World} (hx : shapeE e = x) (hb : shapeB e = b) (h : Below w.heap.size w w') : ShPost e w (.returned (.tuple #[.agg (enCells x).toArray, .bool b])) w' := by
  subst hx; subst hb; exact ⟨rfl, h⟩
set_option maxHeartbeats 8000000 in
theorem shape_k1 (l t p g r : Int) (c : Chg) (s : ByteArray) (w : World) (hc : GoodCh c) (hs : s.size ≤ maxLen) : Calls Try.prog 32 #[.agg (enCells ⟨l, 1, t, p, g, r, c, s⟩).toArray] w (ShPost ⟨l, 1, t, p, g, r, c, s⟩ w) := by
  have HC := Lib.hid hc
  have HBl := Lib.hid hs
  obtain ⟨fsHUE, huHUE⟩ := under_en
  have HUE := Lib.hid huHUE
  clear huHUE
  obtain ⟨fsHUC, huHUC⟩ := under_ch
  have HUC := Lib.hid huHUC
  clear huHUC
  have h1 := ((Hp.start w).put 28 (enCells ⟨l, 1, t, p, g, r, c, s⟩)).put 28 (enCells enNil)
  simp only [List.nil_append, List.cons_append, World.size_alloc] at h1
  have HS0 : Hid (Hp w [.ob w.heap.size 28 (enCells ⟨l, 1, t, p, g, r, c, s⟩), .ob (w.heap.size + 1) 28 (enCells enNil)] ((w.alloc (.cells (enCells ⟨l, 1, t, p, g, r, c, s⟩).toArray 28)).alloc (.cells #[.int .i64 0, .int .i64 0, .int .i64 0, .int .i64 0, .int .i64 0, .int .i64 0, .int .i64 0, .int .i64 0, .bool false, .string ⟨#[]⟩, .bool false, .string ⟨#[]⟩, .string ⟨#[]⟩] 28))) := h1
  clear h1 hc hs
  go_enter Try.func32, Try.ntmps32
  go_upto_region 1 with (fail)
  have HS2 : Hid (Hp w [.ob (w.heap.size) 28 (enCells ⟨l, 1, t, p, g, r, c, s⟩), .ob ((w.heap.size + 1)) 28 (enCells enNil)] ((w.alloc (.cells (enCells ⟨l, 1, t, p, g, r, c, s⟩).toArray 28)).alloc (.cells #[.int .i64 0, .int .i64 0, .int .i64 0, .int .i64 0, .int .i64 0, .int .i64 0, .int .i64 0, .int .i64 0, .bool false, .string ⟨#[]⟩, .bool false, .string ⟨#[]⟩, .string ⟨#[]⟩] 28))) := HS0.out
  clear HS0
  generalize (w.alloc (.cells (enCells ⟨l, 1, t, p, g, r, c, s⟩).toArray 28)).alloc (.cells #[.int .i64 0, .int .i64 0, .int .i64 0, .int .i64 0, .int .i64 0, .int .i64 0, .int .i64 0, .int .i64 0, .bool false, .string ⟨#[]⟩, .bool false, .string ⟨#[]⟩, .string ⟨#[]⟩] 28) = w3 at *
  generalize (w.heap.size + 1) = B1 at *
  have c0 : w3.cell? ⟨(w.heap.size), 0, none⟩ = some (.int .i64 l) := (HS2.out).at 0 rfl 0 rfl
  have c1 : w3.cell? ⟨(w.heap.size), 1, none⟩ = some (.int .i64 1) := (HS2.out).at 0 rfl 1 rfl
  go_upto_region 2 with (first | ((with_reducible refine wpList_build_v (d := some 10) 28 (.agg (enCells ⟨l, 1, 0, 0, 0, 0, chNil, emptyS⟩).toArray) ?_ ?_); (intro W; simp only [List.map_toArray, List.map_cons, List.map_nil]; exact build_two l 1 W); simp only [Act.put, List.setIfInBounds_toArray, List.set_cons_zero, List.set_cons_succ]) | ((with_reducible refine wpList_alloc_ob 28 (enCells enNil) ?_ ?_); (exact alloc_en); simp only [Act.put, List.setIfInBounds_toArray, List.set_cons_zero, List.set_cons_succ]) | ((with_reducible refine wpList_store_ob 28 (.tmp 4) (w3.heap.size) (enCells ⟨l, 1, 0, 0, 0, 0, chNil, emptyS⟩) (enCells enNil) 28 ?_ ?_ ?_ ?_ ?_ ?_ ?_); (exact rfl); (exact rfl); (exact ((HS2.out).put 28 (enCells enNil)).get 2 rfl); (exact info_en); (exact rfl); (exact (oneCell_en _)); skip))
  have HS3 : Hid (Hp w [.ob (w.heap.size) 28 (enCells ⟨l, 1, t, p, g, r, c, s⟩), .ob B1 28 (enCells enNil), .ob (w3.heap.size) 28 (enCells ⟨l, 1, 0, 0, 0, 0, chNil, emptyS⟩)] ((w3.alloc (.cells (enCells enNil).toArray 28)).setRow (w3.heap.size) (enCells ⟨l, 1, 0, 0, 0, 0, chNil, emptyS⟩).toArray)) := ((HS2.out).put 28 (enCells enNil)).row 2 rfl (enCells ⟨l, 1, 0, 0, 0, 0, chNil, emptyS⟩)
  clear HS2
  generalize ((w3.alloc (.cells (enCells enNil).toArray 28)).setRow (w3.heap.size) (enCells ⟨l, 1, 0, 0, 0, 0, chNil, emptyS⟩).toArray) = w4 at *
  generalize w3.heap.size = B2 at *
  clear c0 c1
  have c1 : w4.cell? ⟨(w.heap.size), 1, none⟩ = some (.int .i64 1) := (HS3.out).at 0 rfl 1 rfl
  go_upto_region 5 with (fail)
  clear c1
  refine wp_region_held_drew (S := fun w' => Hold w.heap.size [.ob (w.heap.size) 28 (enCells ⟨l, 1, t, p, g, r, c, s⟩)] w') (by kernel_rfl) ((HS3.out).drew.pick [0] rfl) (fun hHeld => ?_)
  refine wpAnyH_take (i := 0) (oi := { dst := some 16, op := Op.fieldAddr 28 (Operand.tmp 1) 2, type := 0, pos := "ref.go:18", after := #[], guard := none }) (v := ?q1v) rfl (by kernel_rfl) (by kernel_rfl) (by kernel_rfl) (fun _ _ _ h => h) (Or.inl ⟨by rfl, ?q1h⟩) hHeld ?q1r
  case q1h => (intro wq hSw; clear hSw; go_simp; try with_reducible rfl)
  try simp only [Act.put, List.setIfInBounds_toArray, List.set_cons_zero, List.set_cons_succ]
  refine wpAnyH_take (i := 1) (oi := { dst := some 17, op := Op.load 3 (Operand.tmp 16), type := 3, pos := "ref.go:18", after := #[{ on := 0, ground := Ground.data }], guard := none }) (v := .int .i64 t) rfl (by kernel_rfl) (by kernel_rfl) (by kernel_rfl) (fun _ _ _ h => h) (Or.inl ⟨by rfl, ?q2h⟩) hHeld ?q2r
  case q2h => (intro wq hSw; have lq := hSw.at 0 rfl 2 (v := .int .i64 t) rfl; clear hSw; go_simp; try with_reducible rfl)
  try simp only [Act.put, List.setIfInBounds_toArray, List.set_cons_zero, List.set_cons_succ]
  refine wpAnyH_take (i := 2) (oi := { dst := some 18, op := Op.fieldAddr 28 (Operand.tmp 1) 3, type := 0, pos := "ref.go:18", after := #[{ on := 9, ground := Ground.gcOnly Departure.lateStores }], guard := none }) (v := ?q3v) rfl (by kernel_rfl) (by kernel_rfl) (by kernel_rfl) (fun _ _ _ h => h) (Or.inl ⟨by rfl, ?q3h⟩) hHeld ?q3r
  case q3h => (intro wq hSw; clear hSw; go_simp; try with_reducible rfl)
  try simp only [Act.put, List.setIfInBounds_toArray, List.set_cons_zero, List.set_cons_succ]
  refine wpAnyH_take (i := 3) (oi := { dst := some 19, op := Op.load 3 (Operand.tmp 18), type := 3, pos := "ref.go:18", after := #[{ on := 2, ground := Ground.data }, { on := 9, ground := Ground.gcOnly Departure.lateStores }], guard := none }) (v := .int .i64 p) rfl (by kernel_rfl) (by kernel_rfl) (by kernel_rfl) (fun _ _ _ h => h) (Or.inl ⟨by rfl, ?q4h⟩) hHeld ?q4r
  case q4h => (intro wq hSw; have lq := hSw.at 0 rfl 3 (v := .int .i64 p) rfl; clear hSw; go_simp; try with_reducible rfl)
  try simp only [Act.put, List.setIfInBounds_toArray, List.set_cons_zero, List.set_cons_succ]
  refine wpAnyH_take (i := 4) (oi := { dst := some 20, op := Op.fieldAddr 28 (Operand.tmp 1) 4, type := 0, pos := "ref.go:18", after := #[{ on := 11, ground := Ground.gcOnly Departure.lateStores }], guard := none }) (v := ?q5v) rfl (by kernel_rfl) (by kernel_rfl) (by kernel_rfl) (fun _ _ _ h => h) (Or.inl ⟨by rfl, ?q5h⟩) hHeld ?q5r
  case q5h => (intro wq hSw; clear hSw; go_simp; try with_reducible rfl)
  try simp only [Act.put, List.setIfInBounds_toArray, List.set_cons_zero, List.set_cons_succ]
  refine wpAnyH_take (i := 5) (oi := { dst := some 21, op := Op.load 3 (Operand.tmp 20), type := 3, pos := "ref.go:18", after := #[{ on := 4, ground := Ground.data }, { on := 11, ground := Ground.gcOnly Departure.lateStores }], guard := none }) (v := .int .i64 g) rfl (by kernel_rfl) (by kernel_rfl) (by kernel_rfl) (fun _ _ _ h => h) (Or.inl ⟨by rfl, ?q6h⟩) hHeld ?q6r
  case q6h => (intro wq hSw; have lq := hSw.at 0 rfl 4 (v := .int .i64 g) rfl; clear hSw; go_simp; try with_reducible rfl)
  try simp only [Act.put, List.setIfInBounds_toArray, List.set_cons_zero, List.set_cons_succ]
  refine wpAnyH_take (i := 6) (oi := { dst := some 22, op := Op.fieldAddr 28 (Operand.tmp 1) 6, type := 0, pos := "ref.go:18", after := #[{ on := 13, ground := Ground.gcOnly Departure.lateStores }], guard := none }) (v := ?q7v) rfl (by kernel_rfl) (by kernel_rfl) (by kernel_rfl) (fun _ _ _ h => h) (Or.inl ⟨by rfl, ?q7h⟩) hHeld ?q7r
  case q7h => (intro wq hSw; clear hSw; go_simp; try with_reducible rfl)
  try simp only [Act.put, List.setIfInBounds_toArray, List.set_cons_zero, List.set_cons_succ]
  refine wpAnyH_take (i := 7) (oi := { dst := some 23, op := Op.load 26 (Operand.tmp 22), type := 26, pos := "ref.go:18", after := #[{ on := 6, ground := Ground.data }, { on := 13, ground := Ground.gcOnly Departure.lateStores }], guard := none }) rfl (by kernel_rfl) (by kernel_rfl) (by kernel_rfl) (fun _ _ _ h => h) (yieldsIf_load_mid (by rfl) 26 (.tmp 22) rfl (w.heap.size) (6) rfl (chCells c) _ (fun _ h => h.mid 0 rfl (6) _ ((mid_6 ⟨l, 1, t, p, g, r, c, s⟩))) HUC.out rfl (info_ch)) hHeld ?_
  try simp only [Act.put, List.setIfInBounds_toArray, List.set_cons_zero, List.set_cons_succ]
  refine wpAnyH_take (i := 8) (oi := { dst := some 24, op := Op.fieldAddr 28 (Operand.tmp 4) 2, type := 0, pos := "ref.go:18", after := #[{ on := 0, ground := Ground.phase }, { on := 1, ground := Ground.phase }, { on := 2, ground := Ground.textOnly Departure.lateStores }, { on := 3, ground := Ground.textOnly Departure.lateStores }, { on := 4, ground := Ground.textOnly Departure.lateStores }, { on := 5, ground := Ground.textOnly Departure.lateStores }, { on := 6, ground := Ground.textOnly Departure.lateStores }, { on := 7, ground := Ground.textOnly Departure.lateStores }], guard := none }) (v := ?q9v) rfl (by kernel_rfl) (by kernel_rfl) (by kernel_rfl) (fun _ _ _ h => h) (Or.inl ⟨by rfl, ?q9h⟩) hHeld ?q9r
  case q9h => (intro wq hSw; clear hSw; go_simp; try with_reducible rfl)
  try simp only [Act.put, List.setIfInBounds_toArray, List.set_cons_zero, List.set_cons_succ]
  refine wpAnyH_ready (rs := [9]) (by kernel_rfl) (by simp) ?_
  refine AllReadyH.cons (o := { dst := none, op := Op.store 3 (Operand.tmp 24) (Operand.tmp 17), type := 0, pos := "ref.go:18", after := #[{ on := 8, ground := Ground.data }, { on := 1, ground := Ground.data }, { on := 0, ground := Ground.phase }, { on := 1, ground := Ground.phase }, { on := 2, ground := Ground.textOnly Departure.lateStores }, { on := 3, ground := Ground.textOnly Departure.lateStores }, { on := 4, ground := Ground.textOnly Departure.lateStores }, { on := 5, ground := Ground.textOnly Departure.lateStores }, { on := 6, ground := Ground.textOnly Departure.lateStores }, { on := 7, ground := Ground.textOnly Departure.lateStores }], guard := none }) rfl (fun K hK => ?_) (AllReadyH.nil)
  rw [if_pos (by rfl)]
  refine wp_store_fld 3 (.tmp 24) (.tmp 17) B2 2 (.int .i64 t) ([.int .i64 t]) (enCells ⟨l, 1, 0, 0, 0, 0, chNil, emptyS⟩) (enCells ⟨l, 1, t, 0, 0, 0, chNil, emptyS⟩) 28 rfl rfl rfl rfl rfl (((HS3.out).drew).get 2 rfl) (Nat.le_of_ble_eq_true rfl) (info_int1) ((one_int _ _)) rfl ?_
  have HS4 : Hid (Hp w [.ob (w.heap.size) 28 (enCells ⟨l, 1, t, p, g, r, c, s⟩), .ob B1 28 (enCells enNil), .ob B2 28 (enCells ⟨l, 1, t, 0, 0, 0, chNil, emptyS⟩)] (w4.drew.setRow B2 (enCells ⟨l, 1, t, 0, 0, 0, chNil, emptyS⟩).toArray)) := ((HS3.out).drew).row 2 rfl (enCells ⟨l, 1, t, 0, 0, 0, chNil, emptyS⟩)
  refine hK.out _ _ (HS4.out.pick [0] rfl) (fun hHeld => ?_)
  clear hK K
  generalize (w4.drew.setRow B2 (enCells ⟨l, 1, t, 0, 0, 0, chNil, emptyS⟩).toArray) = w5 at *
  try simp only [Act.put, List.setIfInBounds_toArray, List.set_cons_zero, List.set_cons_succ]
  refine wpAnyH_take (i := 10) (oi := { dst := some 25, op := Op.fieldAddr 28 (Operand.tmp 4) 3, type := 0, pos := "ref.go:18", after := #[{ on := 0, ground := Ground.phase }, { on := 1, ground := Ground.phase }, { on := 2, ground := Ground.phase }, { on := 3, ground := Ground.phase }, { on := 4, ground := Ground.textOnly Departure.lateStores }, { on := 5, ground := Ground.textOnly Departure.lateStores }, { on := 6, ground := Ground.textOnly Departure.lateStores }, { on := 7, ground := Ground.textOnly Departure.lateStores }, { on := 8, ground := Ground.phase }, { on := 9, ground := Ground.phase }], guard := none }) (v := ?q10v) rfl (by kernel_rfl) (by kernel_rfl) (by kernel_rfl) (fun _ _ _ h => h) (Or.inl ⟨by rfl, ?q10h⟩) hHeld ?q10r
  case q10h => (intro wq hSw; clear hSw; go_simp; try with_reducible rfl)
  try simp only [Act.put, List.setIfInBounds_toArray, List.set_cons_zero, List.set_cons_succ]
  refine wpAnyH_ready (rs := [11]) (by kernel_rfl) (by simp) ?_
  refine AllReadyH.cons (o := { dst := none, op := Op.store 3 (Operand.tmp 25) (Operand.tmp 19), type := 0, pos := "ref.go:18", after := #[{ on := 10, ground := Ground.data }, { on := 3, ground := Ground.data }, { on := 9, ground := Ground.chain }, { on := 0, ground := Ground.phase }, { on := 1, ground := Ground.phase }, { on := 2, ground := Ground.phase }, { on := 3, ground := Ground.phase }, { on := 4, ground := Ground.textOnly Departure.lateStores }, { on := 5, ground := Ground.textOnly Departure.lateStores }, { on := 6, ground := Ground.textOnly Departure.lateStores }, { on := 7, ground := Ground.textOnly Departure.lateStores }, { on := 8, ground := Ground.phase }, { on := 9, ground := Ground.phase }], guard := none }) rfl (fun K hK => ?_) (AllReadyH.nil)
  rw [if_pos (by rfl)]
  refine wp_store_fld 3 (.tmp 25) (.tmp 19) B2 3 (.int .i64 p) ([.int .i64 p]) (enCells ⟨l, 1, t, 0, 0, 0, chNil, emptyS⟩) (enCells ⟨l, 1, t, p, 0, 0, chNil, emptyS⟩) 28 rfl rfl rfl rfl rfl ((HS4.out).get 2 rfl) (Nat.le_of_ble_eq_true rfl) (info_int1) ((one_int _ _)) rfl ?_
  have HS5 : Hid (Hp w [.ob (w.heap.size) 28 (enCells ⟨l, 1, t, p, g, r, c, s⟩), .ob B1 28 (enCells enNil), .ob B2 28 (enCells ⟨l, 1, t, p, 0, 0, chNil, emptyS⟩)] (w5.setRow B2 (enCells ⟨l, 1, t, p, 0, 0, chNil, emptyS⟩).toArray)) := (HS4.out).row 2 rfl (enCells ⟨l, 1, t, p, 0, 0, chNil, emptyS⟩)
  refine hK.out _ _ (HS5.out.pick [0] rfl) (fun hHeld => ?_)
  clear hK K
  generalize (w5.setRow B2 (enCells ⟨l, 1, t, p, 0, 0, chNil, emptyS⟩).toArray) = w6 at *
  try simp only [Act.put, List.setIfInBounds_toArray, List.set_cons_zero, List.set_cons_succ]
  refine wpAnyH_take (i := 12) (oi := { dst := some 26, op := Op.fieldAddr 28 (Operand.tmp 4) 4, type := 0, pos := "ref.go:18", after := #[{ on := 0, ground := Ground.phase }, { on := 1, ground := Ground.phase }, { on := 2, ground := Ground.phase }, { on := 3, ground := Ground.phase }, { on := 4, ground := Ground.phase }, { on := 5, ground := Ground.phase }, { on := 6, ground := Ground.textOnly Departure.lateStores }, { on := 7, ground := Ground.textOnly Departure.lateStores }, { on := 8, ground := Ground.phase }, { on := 9, ground := Ground.phase }, { on := 10, ground := Ground.phase }, { on := 11, ground := Ground.phase }], guard := none }) (v := ?q11v) rfl (by kernel_rfl) (by kernel_rfl) (by kernel_rfl) (fun _ _ _ h => h) (Or.inl ⟨by rfl, ?q11h⟩) hHeld ?q11r
  case q11h => (intro wq hSw; clear hSw; go_simp; try with_reducible rfl)
  try simp only [Act.put, List.setIfInBounds_toArray, List.set_cons_zero, List.set_cons_succ]
  refine wpAnyH_ready (rs := [13]) (by kernel_rfl) (by simp) ?_
  refine AllReadyH.cons (o := { dst := none, op := Op.store 3 (Operand.tmp 26) (Operand.tmp 21), type := 0, pos := "ref.go:18", after := #[{ on := 12, ground := Ground.data }, { on := 5, ground := Ground.data }, { on := 11, ground := Ground.chain }, { on := 0, ground := Ground.phase }, { on := 1, ground := Ground.phase }, { on := 2, ground := Ground.phase }, { on := 3, ground := Ground.phase }, { on := 4, ground := Ground.phase }, { on := 5, ground := Ground.phase }, { on := 6, ground := Ground.textOnly Departure.lateStores }, { on := 7, ground := Ground.textOnly Departure.lateStores }, { on := 8, ground := Ground.phase }, { on := 9, ground := Ground.phase }, { on := 10, ground := Ground.phase }, { on := 11, ground := Ground.phase }], guard := none }) rfl (fun K hK => ?_) (AllReadyH.nil)
  rw [if_pos (by rfl)]
  refine wp_store_fld 3 (.tmp 26) (.tmp 21) B2 4 (.int .i64 g) ([.int .i64 g]) (enCells ⟨l, 1, t, p, 0, 0, chNil, emptyS⟩) (enCells ⟨l, 1, t, p, g, 0, chNil, emptyS⟩) 28 rfl rfl rfl rfl rfl ((HS5.out).get 2 rfl) (Nat.le_of_ble_eq_true rfl) (info_int1) ((one_int _ _)) rfl ?_
  have HS6 : Hid (Hp w [.ob (w.heap.size) 28 (enCells ⟨l, 1, t, p, g, r, c, s⟩), .ob B1 28 (enCells enNil), .ob B2 28 (enCells ⟨l, 1, t, p, g, 0, chNil, emptyS⟩)] (w6.setRow B2 (enCells ⟨l, 1, t, p, g, 0, chNil, emptyS⟩).toArray)) := (HS5.out).row 2 rfl (enCells ⟨l, 1, t, p, g, 0, chNil, emptyS⟩)
  refine hK.out _ _ (HS6.out.pick [0] rfl) (fun hHeld => ?_)
  clear hK K
  generalize (w6.setRow B2 (enCells ⟨l, 1, t, p, g, 0, chNil, emptyS⟩).toArray) = w7 at *
  try simp only [Act.put, List.setIfInBounds_toArray, List.set_cons_zero, List.set_cons_succ]
  refine wpAnyH_take (i := 14) (oi := { dst := some 27, op := Op.fieldAddr 28 (Operand.tmp 4) 6, type := 0, pos := "ref.go:18", after := #[{ on := 0, ground := Ground.phase }, { on := 1, ground := Ground.phase }, { on := 2, ground := Ground.phase }, { on := 3, ground := Ground.phase }, { on := 4, ground := Ground.phase }, { on := 5, ground := Ground.phase }, { on := 6, ground := Ground.phase }, { on := 7, ground := Ground.phase }, { on := 8, ground := Ground.phase }, { on := 9, ground := Ground.phase }, { on := 10, ground := Ground.phase }, { on := 11, ground := Ground.phase }, { on := 12, ground := Ground.phase }, { on := 13, ground := Ground.phase }], guard := none }) (v := ?q12v) rfl (by kernel_rfl) (by kernel_rfl) (by kernel_rfl) (fun _ _ _ h => h) (Or.inl ⟨by rfl, ?q12h⟩) hHeld ?q12r
  case q12h => (intro wq hSw; clear hSw; go_simp; try with_reducible rfl)
  try simp only [Act.put, List.setIfInBounds_toArray, List.set_cons_zero, List.set_cons_succ]
  refine wpAnyH_ready (rs := [15]) (by kernel_rfl) (by simp) ?_
  refine AllReadyH.cons (o := { dst := none, op := Op.store 26 (Operand.tmp 27) (Operand.tmp 23), type := 0, pos := "ref.go:18", after := #[{ on := 14, ground := Ground.data }, { on := 7, ground := Ground.data }, { on := 13, ground := Ground.chain }, { on := 0, ground := Ground.phase }, { on := 1, ground := Ground.phase }, { on := 2, ground := Ground.phase }, { on := 3, ground := Ground.phase }, { on := 4, ground := Ground.phase }, { on := 5, ground := Ground.phase }, { on := 6, ground := Ground.phase }, { on := 7, ground := Ground.phase }, { on := 8, ground := Ground.phase }, { on := 9, ground := Ground.phase }, { on := 10, ground := Ground.phase }, { on := 11, ground := Ground.phase }, { on := 12, ground := Ground.phase }, { on := 13, ground := Ground.phase }], guard := none }) rfl (fun K hK => ?_) (AllReadyH.nil)
  rw [if_pos (by rfl)]
  refine wp_store_fld 26 (.tmp 27) (.tmp 23) B2 6 (.agg (chCells c).toArray) (chCells c) (enCells ⟨l, 1, t, p, g, 0, chNil, emptyS⟩) (enCells ⟨l, 1, t, p, g, 0, c, emptyS⟩) 28 rfl rfl rfl rfl rfl ((HS6.out).get 2 rfl) (Nat.le_of_ble_eq_true rfl) (info_ch) ((oneCell_ch _)) rfl ?_
  have HS7 : Hid (Hp w [.ob (w.heap.size) 28 (enCells ⟨l, 1, t, p, g, r, c, s⟩), .ob B1 28 (enCells enNil), .ob B2 28 (enCells ⟨l, 1, t, p, g, 0, c, emptyS⟩)] (w7.setRow B2 (enCells ⟨l, 1, t, p, g, 0, c, emptyS⟩).toArray)) := (HS6.out).row 2 rfl (enCells ⟨l, 1, t, p, g, 0, c, emptyS⟩)
  refine hK.out _ _ (HS7.out.pick [0] rfl) (fun hHeld => ?_)
  clear hK K
  generalize (w7.setRow B2 (enCells ⟨l, 1, t, p, g, 0, c, emptyS⟩).toArray) = w8 at *
  try simp only [Act.put, List.setIfInBounds_toArray, List.set_cons_zero, List.set_cons_succ]
  refine wpAnyH_done (by kernel_rfl) ?_ _
  go_wp2_with (first | ((with_reducible refine wpList_load_at 26 (.tmp 28) (w.heap.size) (6) (chCells c) HUC.out ?_ ?_ ?_ ?_ ?_); (exact rfl); (exact (HS7.out).mid 0 rfl (6) _ ((mid_6 ⟨l, 1, t, p, g, r, c, s⟩))); (exact rfl); (exact info_ch); simp only [Act.put, List.setIfInBounds_toArray, List.set_cons_zero, List.set_cons_succ]))
  refine (rvalid_ch c _ HC.out.before HC.out.after).mono ?_
  rintro e w9 ⟨rfl, hb⟩
  have HS8 : Hid (Hp w [.ob (w.heap.size) 28 (enCells ⟨l, 1, t, p, g, r, c, s⟩), .ob B1 28 (enCells enNil), .ob B2 28 (enCells ⟨l, 1, t, p, g, 0, c, emptyS⟩)] w9) := (HS7.out).calls hb
  clear hb
  clear HS7
  obtain ⟨b5, hb5⟩ : ∃ b, chOkB c = b := ⟨_, rfl⟩
  have HV := Lib.hid hb5
  rw [hb5]
  clear hb5
  have c1 : w9.cell? ⟨(w.heap.size), 1, none⟩ = some (.int .i64 1) := (HS8.out).at 0 rfl 1 rfl
  have c2 : w9.cell? ⟨(w.heap.size), 2, none⟩ = some (.int .i64 t) := (HS8.out).at 0 rfl 2 rfl
  cases b5
  case false =>
    go_upto_region 10 with (fail)
    clear c1 c2
    refine wp_region_held_drew (S := fun w' => Hold w.heap.size [.ob (w.heap.size) 28 (enCells ⟨l, 1, t, p, g, r, c, s⟩), .ob B2 28 (enCells ⟨l, 1, t, p, g, 0, c, emptyS⟩)] w') (by kernel_rfl) ((HS8.out).drew.pick [0, 2] rfl) (fun hHeld => ?_)
    refine wpAnyH_take (i := 0) (oi := { dst := some 55, op := Op.load 28 (Operand.tmp 4), type := 28, pos := "ref.go:24", after := #[], guard := none }) rfl (by kernel_rfl) (by kernel_rfl) (by kernel_rfl) (fun _ _ _ h => h) (yieldsIf_load_mid (by rfl) 28 (.tmp 4) rfl B2 0 rfl (enCells ⟨l, 1, t, p, g, 0, c, emptyS⟩) _ (fun _ h => h.whole 1 rfl) HUE.out rfl (info_en)) hHeld ?_
    try simp only [Act.put, List.setIfInBounds_toArray, List.set_cons_zero, List.set_cons_succ]
    refine wpAnyH_take (i := 1) (oi := { dst := some 56, op := Op.move (Operand.tmp 5), type := 4, pos := "ref.go:24", after := #[], guard := none }) (v := ?q14v) rfl (by kernel_rfl) (by kernel_rfl) (by kernel_rfl) (fun _ _ _ h => h) (Or.inl ⟨by rfl, ?q14h⟩) hHeld ?q14r
    case q14h => (intro wq hSw; clear hSw; go_simp; try with_reducible rfl)
    try simp only [Act.put, List.setIfInBounds_toArray, List.set_cons_zero, List.set_cons_succ]
    refine wpAnyH_take (i := 2) (oi := { dst := some 57, op := Op.move (Operand.tmp 56), type := 4, pos := "ref.go:24", after := #[{ on := 1, ground := Ground.data }], guard := none }) (v := ?q15v) rfl (by kernel_rfl) (by kernel_rfl) (by kernel_rfl) (fun _ _ _ h => h) (Or.inl ⟨by rfl, ?q15h⟩) hHeld ?q15r
    case q15h => (intro wq hSw; clear hSw; go_simp; try with_reducible rfl)
    try simp only [Act.put, List.setIfInBounds_toArray, List.set_cons_zero, List.set_cons_succ]
    refine wpAnyH_take (i := 3) (oi := { dst := some 58, op := Op.fieldAddr 28 (Operand.tmp 1) 2, type := 0, pos := "ref.go:24", after := #[{ on := 2, ground := Ground.guard }], guard := some (2, true) }) (v := undef) rfl (by kernel_rfl) (by kernel_rfl) (by kernel_rfl) (fun _ _ _ h => h) (Or.inr ⟨by rfl, rfl⟩) hHeld ?_
    try simp only [Act.put, List.setIfInBounds_toArray, List.set_cons_zero, List.set_cons_succ]
    refine wpAnyH_take (i := 4) (oi := { dst := some 59, op := Op.load 3 (Operand.tmp 58), type := 3, pos := "ref.go:24", after := #[{ on := 3, ground := Ground.data }, { on := 2, ground := Ground.guard }], guard := some (2, true) }) (v := undef) rfl (by kernel_rfl) (by kernel_rfl) (by kernel_rfl) (fun _ _ _ h => h) (Or.inr ⟨by rfl, rfl⟩) hHeld ?_
    try simp only [Act.put, List.setIfInBounds_toArray, List.set_cons_zero, List.set_cons_succ]
    refine wpAnyH_take (i := 5) (oi := { dst := some 60, op := Op.binOp BinOp.geq 3 (Operand.tmp 59) (Operand.const (Value.int IntKind.i64 1)) 3, type := 4, pos := "ref.go:24", after := #[{ on := 4, ground := Ground.data }, { on := 2, ground := Ground.guard }], guard := some (2, true) }) (v := undef) rfl (by kernel_rfl) (by kernel_rfl) (by kernel_rfl) (fun _ _ _ h => h) (Or.inr ⟨by rfl, rfl⟩) hHeld ?_
    try simp only [Act.put, List.setIfInBounds_toArray, List.set_cons_zero, List.set_cons_succ]
    refine wpAnyH_take (i := 6) (oi := { dst := some 61, op := Op.pick (Operand.tmp 57) (Operand.tmp 60) (Operand.const (Value.bool false)), type := 4, pos := "ref.go:24", after := #[{ on := 2, ground := Ground.data }, { on := 5, ground := Ground.data }], guard := none }) (v := .bool false) rfl (by kernel_rfl) (by kernel_rfl) (by kernel_rfl) (fun _ _ _ h => h) (Or.inl ⟨by rfl, ?q19h⟩) hHeld ?q19r
    case q19h => (intro wq hSw; clear hSw; go_simp; try with_reducible rfl)
    try simp only [Act.put, List.setIfInBounds_toArray, List.set_cons_zero, List.set_cons_succ]
    refine wpAnyH_take (i := 7) (oi := { dst := some 62, op := Op.move (Operand.tmp 61), type := 4, pos := "ref.go:24", after := #[{ on := 6, ground := Ground.data }, { on := 2, ground := Ground.chain }], guard := none }) (v := ?q20v) rfl (by kernel_rfl) (by kernel_rfl) (by kernel_rfl) (fun _ _ _ h => h) (Or.inl ⟨by rfl, ?q20h⟩) hHeld ?q20r
    case q20h => (intro wq hSw; clear hSw; go_simp; try with_reducible rfl)
    try simp only [Act.put, List.setIfInBounds_toArray, List.set_cons_zero, List.set_cons_succ]
    refine wpAnyH_take (i := 8) (oi := { dst := some 63, op := Op.fieldAddr 28 (Operand.tmp 1) 2, type := 0, pos := "ref.go:24", after := #[{ on := 7, ground := Ground.guard }, { on := 12, ground := Ground.gcOnly Departure.lateStores }], guard := some (7, true) }) (v := undef) rfl (by kernel_rfl) (by kernel_rfl) (by kernel_rfl) (fun _ _ _ h => h) (Or.inr ⟨by rfl, rfl⟩) hHeld ?_
    try simp only [Act.put, List.setIfInBounds_toArray, List.set_cons_zero, List.set_cons_succ]
    refine wpAnyH_take (i := 9) (oi := { dst := some 64, op := Op.load 3 (Operand.tmp 63), type := 3, pos := "ref.go:24", after := #[{ on := 8, ground := Ground.data }, { on := 7, ground := Ground.guard }, { on := 12, ground := Ground.gcOnly Departure.lateStores }], guard := some (7, true) }) (v := undef) rfl (by kernel_rfl) (by kernel_rfl) (by kernel_rfl) (fun _ _ _ h => h) (Or.inr ⟨by rfl, rfl⟩) hHeld ?_
    try simp only [Act.put, List.setIfInBounds_toArray, List.set_cons_zero, List.set_cons_succ]
    refine wpAnyH_take (i := 10) (oi := { dst := some 65, op := Op.binOp BinOp.leq 3 (Operand.tmp 64) (Operand.const (Value.int IntKind.i64 1073741824)) 3, type := 4, pos := "ref.go:24", after := #[{ on := 9, ground := Ground.data }, { on := 7, ground := Ground.guard }, { on := 12, ground := Ground.gcOnly Departure.lateStores }], guard := some (7, true) }) (v := undef) rfl (by kernel_rfl) (by kernel_rfl) (by kernel_rfl) (fun _ _ _ h => h) (Or.inr ⟨by rfl, rfl⟩) hHeld ?_
    try simp only [Act.put, List.setIfInBounds_toArray, List.set_cons_zero, List.set_cons_succ]
    refine wpAnyH_take (i := 11) (oi := { dst := some 66, op := Op.pick (Operand.tmp 62) (Operand.tmp 65) (Operand.const (Value.bool false)), type := 4, pos := "ref.go:24", after := #[{ on := 7, ground := Ground.data }, { on := 10, ground := Ground.data }, { on := 12, ground := Ground.gcOnly Departure.lateStores }], guard := none }) (v := .bool false) rfl (by kernel_rfl) (by kernel_rfl) (by kernel_rfl) (fun _ _ _ h => h) (Or.inl ⟨by rfl, ?q24h⟩) hHeld ?q24r
    case q24h => (intro wq hSw; clear hSw; go_simp; try with_reducible rfl)
    try simp only [Act.put, List.setIfInBounds_toArray, List.set_cons_zero, List.set_cons_succ]
    refine wpAnyH_ready (rs := [12]) (by kernel_rfl) (by simp) ?_
    refine AllReadyH.cons (o := { dst := none, op := Op.store 28 (Operand.tmp 2) (Operand.tmp 55), type := 0, pos := "ref.go:24", after := #[{ on := 0, ground := Ground.data }, { on := 7, ground := Ground.chain }, { on := 0, ground := Ground.phase }, { on := 1, ground := Ground.textOnly Departure.lateStores }, { on := 2, ground := Ground.textOnly Departure.lateStores }, { on := 3, ground := Ground.textOnly Departure.lateStores }, { on := 4, ground := Ground.textOnly Departure.lateStores }, { on := 5, ground := Ground.textOnly Departure.lateStores }, { on := 6, ground := Ground.textOnly Departure.lateStores }, { on := 7, ground := Ground.textOnly Departure.lateStores }, { on := 8, ground := Ground.textOnly Departure.lateStores }, { on := 9, ground := Ground.textOnly Departure.lateStores }, { on := 10, ground := Ground.textOnly Departure.lateStores }, { on := 11, ground := Ground.textOnly Departure.lateStores }], guard := none }) rfl (fun K hK => ?_) (AllReadyH.nil)
    rw [if_pos (by rfl)]
    refine wp_store_ob 28 (.tmp 2) (.tmp 55) B1 (enCells ⟨l, 1, t, p, g, 0, c, emptyS⟩) (enCells enNil) 28 rfl rfl rfl rfl (((HS8.out).drew).get 1 rfl) (info_en) (rfl) ((oneCell_en _)) ?_
    have HS9 : Hid (Hp w [.ob (w.heap.size) 28 (enCells ⟨l, 1, t, p, g, r, c, s⟩), .ob B1 28 (enCells ⟨l, 1, t, p, g, 0, c, emptyS⟩), .ob B2 28 (enCells ⟨l, 1, t, p, g, 0, c, emptyS⟩)] (w9.drew.setRow B1 (enCells ⟨l, 1, t, p, g, 0, c, emptyS⟩).toArray)) := ((HS8.out).drew).row 1 rfl (enCells ⟨l, 1, t, p, g, 0, c, emptyS⟩)
    refine hK.out _ _ (HS9.out.pick [0, 2] rfl) (fun hHeld => ?_)
    clear hK K
    generalize (w9.drew.setRow B1 (enCells ⟨l, 1, t, p, g, 0, c, emptyS⟩).toArray) = w10 at *
    try simp only [Act.put, List.setIfInBounds_toArray, List.set_cons_zero, List.set_cons_succ]
    refine wpAnyH_take (i := 13) (oi := { dst := some 3, op := Op.assign (Operand.tmp 66), type := 4, pos := "ref.go:24", after := #[{ on := 11, ground := Ground.data }, { on := 12, ground := Ground.chain }, { on := 0, ground := Ground.phase }, { on := 1, ground := Ground.phase }, { on := 2, ground := Ground.phase }, { on := 3, ground := Ground.phase }, { on := 4, ground := Ground.phase }, { on := 5, ground := Ground.phase }, { on := 6, ground := Ground.phase }, { on := 7, ground := Ground.phase }, { on := 8, ground := Ground.phase }, { on := 9, ground := Ground.phase }, { on := 10, ground := Ground.phase }, { on := 11, ground := Ground.phase }, { on := 12, ground := Ground.phase }], guard := none }) (v := ?q25v) rfl (by kernel_rfl) (by kernel_rfl) (by kernel_rfl) (fun _ _ _ h => h) (Or.inl ⟨by rfl, ?q25h⟩) hHeld ?q25r
    case q25h => (intro wq hSw; clear hSw; go_simp; try with_reducible rfl)
    try simp only [Act.put, List.setIfInBounds_toArray, List.set_cons_zero, List.set_cons_succ]
    refine wpAnyH_done (by kernel_rfl) ?_ _
    go_wp2_with fail
    refine bodyPost_ret (results_ob_tmp Try.results32 _ _ B1 (enCells ⟨l, 1, t, p, g, 0, c, emptyS⟩) 28 _ rfl ((HS9.out).get 1 rfl) HUE.out rfl info_en) rfl ?_
    exact ShPost.mk rfl (by show (chOkB c && isTxB t) = _; rw [HV.out]; simp [isTxB, posB, upB]) (HS9.out).old
  case true =>
    by_cases t1 : 1 ≤ t
    case neg =>
      go_upto_region 10 with (fail)
      clear c1 c2
      refine wp_region_held_drew (S := fun w' => Hold w.heap.size [.ob (w.heap.size) 28 (enCells ⟨l, 1, t, p, g, r, c, s⟩), .ob B2 28 (enCells ⟨l, 1, t, p, g, 0, c, emptyS⟩)] w') (by kernel_rfl) ((HS8.out).drew.pick [0, 2] rfl) (fun hHeld => ?_)
      refine wpAnyH_take (i := 0) (oi := { dst := some 55, op := Op.load 28 (Operand.tmp 4), type := 28, pos := "ref.go:24", after := #[], guard := none }) rfl (by kernel_rfl) (by kernel_rfl) (by kernel_rfl) (fun _ _ _ h => h) (yieldsIf_load_mid (by rfl) 28 (.tmp 4) rfl B2 0 rfl (enCells ⟨l, 1, t, p, g, 0, c, emptyS⟩) _ (fun _ h => h.whole 1 rfl) HUE.out rfl (info_en)) hHeld ?_
      try simp only [Act.put, List.setIfInBounds_toArray, List.set_cons_zero, List.set_cons_succ]
      refine wpAnyH_take (i := 1) (oi := { dst := some 56, op := Op.move (Operand.tmp 5), type := 4, pos := "ref.go:24", after := #[], guard := none }) (v := ?q27v) rfl (by kernel_rfl) (by kernel_rfl) (by kernel_rfl) (fun _ _ _ h => h) (Or.inl ⟨by rfl, ?q27h⟩) hHeld ?q27r
      case q27h => (intro wq hSw; clear hSw; go_simp; try with_reducible rfl)
      try simp only [Act.put, List.setIfInBounds_toArray, List.set_cons_zero, List.set_cons_succ]
      refine wpAnyH_take (i := 2) (oi := { dst := some 57, op := Op.move (Operand.tmp 56), type := 4, pos := "ref.go:24", after := #[{ on := 1, ground := Ground.data }], guard := none }) (v := ?q28v) rfl (by kernel_rfl) (by kernel_rfl) (by kernel_rfl) (fun _ _ _ h => h) (Or.inl ⟨by rfl, ?q28h⟩) hHeld ?q28r
      case q28h => (intro wq hSw; clear hSw; go_simp; try with_reducible rfl)
      try simp only [Act.put, List.setIfInBounds_toArray, List.set_cons_zero, List.set_cons_succ]
      refine wpAnyH_take (i := 3) (oi := { dst := some 58, op := Op.fieldAddr 28 (Operand.tmp 1) 2, type := 0, pos := "ref.go:24", after := #[{ on := 2, ground := Ground.guard }], guard := some (2, true) }) (v := ?q29v) rfl (by kernel_rfl) (by kernel_rfl) (by kernel_rfl) (fun _ _ _ h => h) (Or.inl ⟨by rfl, ?q29h⟩) hHeld ?q29r
      case q29h => (intro wq hSw; clear hSw; go_simp; try with_reducible rfl)
      try simp only [Act.put, List.setIfInBounds_toArray, List.set_cons_zero, List.set_cons_succ]
      refine wpAnyH_take (i := 4) (oi := { dst := some 59, op := Op.load 3 (Operand.tmp 58), type := 3, pos := "ref.go:24", after := #[{ on := 3, ground := Ground.data }, { on := 2, ground := Ground.guard }], guard := some (2, true) }) (v := .int .i64 t) rfl (by kernel_rfl) (by kernel_rfl) (by kernel_rfl) (fun _ _ _ h => h) (Or.inl ⟨by rfl, ?q30h⟩) hHeld ?q30r
      case q30h => (intro wq hSw; have lq := hSw.at 0 rfl 2 (v := .int .i64 t) rfl; clear hSw; go_simp; try with_reducible rfl)
      try simp only [Act.put, List.setIfInBounds_toArray, List.set_cons_zero, List.set_cons_succ]
      refine wpAnyH_take (i := 5) (oi := { dst := some 60, op := Op.binOp BinOp.geq 3 (Operand.tmp 59) (Operand.const (Value.int IntKind.i64 1)) 3, type := 4, pos := "ref.go:24", after := #[{ on := 4, ground := Ground.data }, { on := 2, ground := Ground.guard }], guard := some (2, true) }) (v := .bool false) rfl (by kernel_rfl) (by kernel_rfl) (by kernel_rfl) (fun _ _ _ h => h) (Or.inl ⟨by rfl, ?q31h⟩) hHeld ?q31r
      case q31h => (intro wq hSw; clear hSw; go_simp; try with_reducible rfl)
      try simp only [Act.put, List.setIfInBounds_toArray, List.set_cons_zero, List.set_cons_succ]
      refine wpAnyH_take (i := 6) (oi := { dst := some 61, op := Op.pick (Operand.tmp 57) (Operand.tmp 60) (Operand.const (Value.bool false)), type := 4, pos := "ref.go:24", after := #[{ on := 2, ground := Ground.data }, { on := 5, ground := Ground.data }], guard := none }) (v := .bool false) rfl (by kernel_rfl) (by kernel_rfl) (by kernel_rfl) (fun _ _ _ h => h) (Or.inl ⟨by rfl, ?q32h⟩) hHeld ?q32r
      case q32h => (intro wq hSw; clear hSw; go_simp; try with_reducible rfl)
      try simp only [Act.put, List.setIfInBounds_toArray, List.set_cons_zero, List.set_cons_succ]
      refine wpAnyH_take (i := 7) (oi := { dst := some 62, op := Op.move (Operand.tmp 61), type := 4, pos := "ref.go:24", after := #[{ on := 6, ground := Ground.data }, { on := 2, ground := Ground.chain }], guard := none }) (v := ?q33v) rfl (by kernel_rfl) (by kernel_rfl) (by kernel_rfl) (fun _ _ _ h => h) (Or.inl ⟨by rfl, ?q33h⟩) hHeld ?q33r
      case q33h => (intro wq hSw; clear hSw; go_simp; try with_reducible rfl)
      try simp only [Act.put, List.setIfInBounds_toArray, List.set_cons_zero, List.set_cons_succ]
      refine wpAnyH_take (i := 8) (oi := { dst := some 63, op := Op.fieldAddr 28 (Operand.tmp 1) 2, type := 0, pos := "ref.go:24", after := #[{ on := 7, ground := Ground.guard }, { on := 12, ground := Ground.gcOnly Departure.lateStores }], guard := some (7, true) }) (v := undef) rfl (by kernel_rfl) (by kernel_rfl) (by kernel_rfl) (fun _ _ _ h => h) (Or.inr ⟨by rfl, rfl⟩) hHeld ?_
      try simp only [Act.put, List.setIfInBounds_toArray, List.set_cons_zero, List.set_cons_succ]
      refine wpAnyH_take (i := 9) (oi := { dst := some 64, op := Op.load 3 (Operand.tmp 63), type := 3, pos := "ref.go:24", after := #[{ on := 8, ground := Ground.data }, { on := 7, ground := Ground.guard }, { on := 12, ground := Ground.gcOnly Departure.lateStores }], guard := some (7, true) }) (v := undef) rfl (by kernel_rfl) (by kernel_rfl) (by kernel_rfl) (fun _ _ _ h => h) (Or.inr ⟨by rfl, rfl⟩) hHeld ?_
      try simp only [Act.put, List.setIfInBounds_toArray, List.set_cons_zero, List.set_cons_succ]
      refine wpAnyH_take (i := 10) (oi := { dst := some 65, op := Op.binOp BinOp.leq 3 (Operand.tmp 64) (Operand.const (Value.int IntKind.i64 1073741824)) 3, type := 4, pos := "ref.go:24", after := #[{ on := 9, ground := Ground.data }, { on := 7, ground := Ground.guard }, { on := 12, ground := Ground.gcOnly Departure.lateStores }], guard := some (7, true) }) (v := undef) rfl (by kernel_rfl) (by kernel_rfl) (by kernel_rfl) (fun _ _ _ h => h) (Or.inr ⟨by rfl, rfl⟩) hHeld ?_
      try simp only [Act.put, List.setIfInBounds_toArray, List.set_cons_zero, List.set_cons_succ]
      refine wpAnyH_take (i := 11) (oi := { dst := some 66, op := Op.pick (Operand.tmp 62) (Operand.tmp 65) (Operand.const (Value.bool false)), type := 4, pos := "ref.go:24", after := #[{ on := 7, ground := Ground.data }, { on := 10, ground := Ground.data }, { on := 12, ground := Ground.gcOnly Departure.lateStores }], guard := none }) (v := .bool false) rfl (by kernel_rfl) (by kernel_rfl) (by kernel_rfl) (fun _ _ _ h => h) (Or.inl ⟨by rfl, ?q37h⟩) hHeld ?q37r
      case q37h => (intro wq hSw; clear hSw; go_simp; try with_reducible rfl)
      try simp only [Act.put, List.setIfInBounds_toArray, List.set_cons_zero, List.set_cons_succ]
      refine wpAnyH_ready (rs := [12]) (by kernel_rfl) (by simp) ?_
      refine AllReadyH.cons (o := { dst := none, op := Op.store 28 (Operand.tmp 2) (Operand.tmp 55), type := 0, pos := "ref.go:24", after := #[{ on := 0, ground := Ground.data }, { on := 7, ground := Ground.chain }, { on := 0, ground := Ground.phase }, { on := 1, ground := Ground.textOnly Departure.lateStores }, { on := 2, ground := Ground.textOnly Departure.lateStores }, { on := 3, ground := Ground.textOnly Departure.lateStores }, { on := 4, ground := Ground.textOnly Departure.lateStores }, { on := 5, ground := Ground.textOnly Departure.lateStores }, { on := 6, ground := Ground.textOnly Departure.lateStores }, { on := 7, ground := Ground.textOnly Departure.lateStores }, { on := 8, ground := Ground.textOnly Departure.lateStores }, { on := 9, ground := Ground.textOnly Departure.lateStores }, { on := 10, ground := Ground.textOnly Departure.lateStores }, { on := 11, ground := Ground.textOnly Departure.lateStores }], guard := none }) rfl (fun K hK => ?_) (AllReadyH.nil)
      rw [if_pos (by rfl)]
      refine wp_store_ob 28 (.tmp 2) (.tmp 55) B1 (enCells ⟨l, 1, t, p, g, 0, c, emptyS⟩) (enCells enNil) 28 rfl rfl rfl rfl (((HS8.out).drew).get 1 rfl) (info_en) (rfl) ((oneCell_en _)) ?_
      have HS9 : Hid (Hp w [.ob (w.heap.size) 28 (enCells ⟨l, 1, t, p, g, r, c, s⟩), .ob B1 28 (enCells ⟨l, 1, t, p, g, 0, c, emptyS⟩), .ob B2 28 (enCells ⟨l, 1, t, p, g, 0, c, emptyS⟩)] (w9.drew.setRow B1 (enCells ⟨l, 1, t, p, g, 0, c, emptyS⟩).toArray)) := ((HS8.out).drew).row 1 rfl (enCells ⟨l, 1, t, p, g, 0, c, emptyS⟩)
      refine hK.out _ _ (HS9.out.pick [0, 2] rfl) (fun hHeld => ?_)
      clear hK K
      generalize (w9.drew.setRow B1 (enCells ⟨l, 1, t, p, g, 0, c, emptyS⟩).toArray) = w10 at *
      try simp only [Act.put, List.setIfInBounds_toArray, List.set_cons_zero, List.set_cons_succ]
      refine wpAnyH_take (i := 13) (oi := { dst := some 3, op := Op.assign (Operand.tmp 66), type := 4, pos := "ref.go:24", after := #[{ on := 11, ground := Ground.data }, { on := 12, ground := Ground.chain }, { on := 0, ground := Ground.phase }, { on := 1, ground := Ground.phase }, { on := 2, ground := Ground.phase }, { on := 3, ground := Ground.phase }, { on := 4, ground := Ground.phase }, { on := 5, ground := Ground.phase }, { on := 6, ground := Ground.phase }, { on := 7, ground := Ground.phase }, { on := 8, ground := Ground.phase }, { on := 9, ground := Ground.phase }, { on := 10, ground := Ground.phase }, { on := 11, ground := Ground.phase }, { on := 12, ground := Ground.phase }], guard := none }) (v := ?q38v) rfl (by kernel_rfl) (by kernel_rfl) (by kernel_rfl) (fun _ _ _ h => h) (Or.inl ⟨by rfl, ?q38h⟩) hHeld ?q38r
      case q38h => (intro wq hSw; clear hSw; go_simp; try with_reducible rfl)
      try simp only [Act.put, List.setIfInBounds_toArray, List.set_cons_zero, List.set_cons_succ]
      refine wpAnyH_done (by kernel_rfl) ?_ _
      go_wp2_with fail
      refine bodyPost_ret (results_ob_tmp Try.results32 _ _ B1 (enCells ⟨l, 1, t, p, g, 0, c, emptyS⟩) 28 _ rfl ((HS9.out).get 1 rfl) HUE.out rfl info_en) rfl ?_
      exact ShPost.mk rfl (by show (chOkB c && isTxB t) = _; rw [HV.out]; simp [isTxB, posB, upB]; omega) (HS9.out).old
    case pos =>
      by_cases t2 : t ≤ 1073741824
      case neg =>
        go_upto_region 10 with (fail)
        clear c1 c2
        refine wp_region_held_drew (S := fun w' => Hold w.heap.size [.ob (w.heap.size) 28 (enCells ⟨l, 1, t, p, g, r, c, s⟩), .ob B2 28 (enCells ⟨l, 1, t, p, g, 0, c, emptyS⟩)] w') (by kernel_rfl) ((HS8.out).drew.pick [0, 2] rfl) (fun hHeld => ?_)
        refine wpAnyH_take (i := 0) (oi := { dst := some 55, op := Op.load 28 (Operand.tmp 4), type := 28, pos := "ref.go:24", after := #[], guard := none }) rfl (by kernel_rfl) (by kernel_rfl) (by kernel_rfl) (fun _ _ _ h => h) (yieldsIf_load_mid (by rfl) 28 (.tmp 4) rfl B2 0 rfl (enCells ⟨l, 1, t, p, g, 0, c, emptyS⟩) _ (fun _ h => h.whole 1 rfl) HUE.out rfl (info_en)) hHeld ?_
        try simp only [Act.put, List.setIfInBounds_toArray, List.set_cons_zero, List.set_cons_succ]
        refine wpAnyH_take (i := 1) (oi := { dst := some 56, op := Op.move (Operand.tmp 5), type := 4, pos := "ref.go:24", after := #[], guard := none }) (v := ?q40v) rfl (by kernel_rfl) (by kernel_rfl) (by kernel_rfl) (fun _ _ _ h => h) (Or.inl ⟨by rfl, ?q40h⟩) hHeld ?q40r
        case q40h => (intro wq hSw; clear hSw; go_simp; try with_reducible rfl)
        try simp only [Act.put, List.setIfInBounds_toArray, List.set_cons_zero, List.set_cons_succ]
        refine wpAnyH_take (i := 2) (oi := { dst := some 57, op := Op.move (Operand.tmp 56), type := 4, pos := "ref.go:24", after := #[{ on := 1, ground := Ground.data }], guard := none }) (v := ?q41v) rfl (by kernel_rfl) (by kernel_rfl) (by kernel_rfl) (fun _ _ _ h => h) (Or.inl ⟨by rfl, ?q41h⟩) hHeld ?q41r
        case q41h => (intro wq hSw; clear hSw; go_simp; try with_reducible rfl)
        try simp only [Act.put, List.setIfInBounds_toArray, List.set_cons_zero, List.set_cons_succ]
        refine wpAnyH_take (i := 3) (oi := { dst := some 58, op := Op.fieldAddr 28 (Operand.tmp 1) 2, type := 0, pos := "ref.go:24", after := #[{ on := 2, ground := Ground.guard }], guard := some (2, true) }) (v := ?q42v) rfl (by kernel_rfl) (by kernel_rfl) (by kernel_rfl) (fun _ _ _ h => h) (Or.inl ⟨by rfl, ?q42h⟩) hHeld ?q42r
        case q42h => (intro wq hSw; clear hSw; go_simp; try with_reducible rfl)
        try simp only [Act.put, List.setIfInBounds_toArray, List.set_cons_zero, List.set_cons_succ]
        refine wpAnyH_take (i := 4) (oi := { dst := some 59, op := Op.load 3 (Operand.tmp 58), type := 3, pos := "ref.go:24", after := #[{ on := 3, ground := Ground.data }, { on := 2, ground := Ground.guard }], guard := some (2, true) }) (v := .int .i64 t) rfl (by kernel_rfl) (by kernel_rfl) (by kernel_rfl) (fun _ _ _ h => h) (Or.inl ⟨by rfl, ?q43h⟩) hHeld ?q43r
        case q43h => (intro wq hSw; have lq := hSw.at 0 rfl 2 (v := .int .i64 t) rfl; clear hSw; go_simp; try with_reducible rfl)
        try simp only [Act.put, List.setIfInBounds_toArray, List.set_cons_zero, List.set_cons_succ]
        refine wpAnyH_take (i := 5) (oi := { dst := some 60, op := Op.binOp BinOp.geq 3 (Operand.tmp 59) (Operand.const (Value.int IntKind.i64 1)) 3, type := 4, pos := "ref.go:24", after := #[{ on := 4, ground := Ground.data }, { on := 2, ground := Ground.guard }], guard := some (2, true) }) (v := .bool true) rfl (by kernel_rfl) (by kernel_rfl) (by kernel_rfl) (fun _ _ _ h => h) (Or.inl ⟨by rfl, ?q44h⟩) hHeld ?q44r
        case q44h => (intro wq hSw; clear hSw; go_simp; try with_reducible rfl)
        try simp only [Act.put, List.setIfInBounds_toArray, List.set_cons_zero, List.set_cons_succ]
        refine wpAnyH_take (i := 6) (oi := { dst := some 61, op := Op.pick (Operand.tmp 57) (Operand.tmp 60) (Operand.const (Value.bool false)), type := 4, pos := "ref.go:24", after := #[{ on := 2, ground := Ground.data }, { on := 5, ground := Ground.data }], guard := none }) (v := .bool true) rfl (by kernel_rfl) (by kernel_rfl) (by kernel_rfl) (fun _ _ _ h => h) (Or.inl ⟨by rfl, ?q45h⟩) hHeld ?q45r
        case q45h => (intro wq hSw; clear hSw; go_simp; try with_reducible rfl)
        try simp only [Act.put, List.setIfInBounds_toArray, List.set_cons_zero, List.set_cons_succ]
        refine wpAnyH_take (i := 7) (oi := { dst := some 62, op := Op.move (Operand.tmp 61), type := 4, pos := "ref.go:24", after := #[{ on := 6, ground := Ground.data }, { on := 2, ground := Ground.chain }], guard := none }) (v := ?q46v) rfl (by kernel_rfl) (by kernel_rfl) (by kernel_rfl) (fun _ _ _ h => h) (Or.inl ⟨by rfl, ?q46h⟩) hHeld ?q46r
        case q46h => (intro wq hSw; clear hSw; go_simp; try with_reducible rfl)
        try simp only [Act.put, List.setIfInBounds_toArray, List.set_cons_zero, List.set_cons_succ]
        refine wpAnyH_take (i := 8) (oi := { dst := some 63, op := Op.fieldAddr 28 (Operand.tmp 1) 2, type := 0, pos := "ref.go:24", after := #[{ on := 7, ground := Ground.guard }, { on := 12, ground := Ground.gcOnly Departure.lateStores }], guard := some (7, true) }) (v := ?q47v) rfl (by kernel_rfl) (by kernel_rfl) (by kernel_rfl) (fun _ _ _ h => h) (Or.inl ⟨by rfl, ?q47h⟩) hHeld ?q47r
        case q47h => (intro wq hSw; clear hSw; go_simp; try with_reducible rfl)
        try simp only [Act.put, List.setIfInBounds_toArray, List.set_cons_zero, List.set_cons_succ]
        refine wpAnyH_take (i := 9) (oi := { dst := some 64, op := Op.load 3 (Operand.tmp 63), type := 3, pos := "ref.go:24", after := #[{ on := 8, ground := Ground.data }, { on := 7, ground := Ground.guard }, { on := 12, ground := Ground.gcOnly Departure.lateStores }], guard := some (7, true) }) (v := .int .i64 t) rfl (by kernel_rfl) (by kernel_rfl) (by kernel_rfl) (fun _ _ _ h => h) (Or.inl ⟨by rfl, ?q48h⟩) hHeld ?q48r
        case q48h => (intro wq hSw; have lq := hSw.at 0 rfl 2 (v := .int .i64 t) rfl; clear hSw; go_simp; try with_reducible rfl)
        try simp only [Act.put, List.setIfInBounds_toArray, List.set_cons_zero, List.set_cons_succ]
        refine wpAnyH_take (i := 10) (oi := { dst := some 65, op := Op.binOp BinOp.leq 3 (Operand.tmp 64) (Operand.const (Value.int IntKind.i64 1073741824)) 3, type := 4, pos := "ref.go:24", after := #[{ on := 9, ground := Ground.data }, { on := 7, ground := Ground.guard }, { on := 12, ground := Ground.gcOnly Departure.lateStores }], guard := some (7, true) }) (v := .bool false) rfl (by kernel_rfl) (by kernel_rfl) (by kernel_rfl) (fun _ _ _ h => h) (Or.inl ⟨by rfl, ?q49h⟩) hHeld ?q49r
        case q49h => (intro wq hSw; clear hSw; go_simp; try with_reducible rfl)
        try simp only [Act.put, List.setIfInBounds_toArray, List.set_cons_zero, List.set_cons_succ]
        refine wpAnyH_take (i := 11) (oi := { dst := some 66, op := Op.pick (Operand.tmp 62) (Operand.tmp 65) (Operand.const (Value.bool false)), type := 4, pos := "ref.go:24", after := #[{ on := 7, ground := Ground.data }, { on := 10, ground := Ground.data }, { on := 12, ground := Ground.gcOnly Departure.lateStores }], guard := none }) (v := .bool false) rfl (by kernel_rfl) (by kernel_rfl) (by kernel_rfl) (fun _ _ _ h => h) (Or.inl ⟨by rfl, ?q50h⟩) hHeld ?q50r
        case q50h => (intro wq hSw; clear hSw; go_simp; try with_reducible rfl)
        try simp only [Act.put, List.setIfInBounds_toArray, List.set_cons_zero, List.set_cons_succ]
        refine wpAnyH_ready (rs := [12]) (by kernel_rfl) (by simp) ?_
        refine AllReadyH.cons (o := { dst := none, op := Op.store 28 (Operand.tmp 2) (Operand.tmp 55), type := 0, pos := "ref.go:24", after := #[{ on := 0, ground := Ground.data }, { on := 7, ground := Ground.chain }, { on := 0, ground := Ground.phase }, { on := 1, ground := Ground.textOnly Departure.lateStores }, { on := 2, ground := Ground.textOnly Departure.lateStores }, { on := 3, ground := Ground.textOnly Departure.lateStores }, { on := 4, ground := Ground.textOnly Departure.lateStores }, { on := 5, ground := Ground.textOnly Departure.lateStores }, { on := 6, ground := Ground.textOnly Departure.lateStores }, { on := 7, ground := Ground.textOnly Departure.lateStores }, { on := 8, ground := Ground.textOnly Departure.lateStores }, { on := 9, ground := Ground.textOnly Departure.lateStores }, { on := 10, ground := Ground.textOnly Departure.lateStores }, { on := 11, ground := Ground.textOnly Departure.lateStores }], guard := none }) rfl (fun K hK => ?_) (AllReadyH.nil)
        rw [if_pos (by rfl)]
        refine wp_store_ob 28 (.tmp 2) (.tmp 55) B1 (enCells ⟨l, 1, t, p, g, 0, c, emptyS⟩) (enCells enNil) 28 rfl rfl rfl rfl (((HS8.out).drew).get 1 rfl) (info_en) (rfl) ((oneCell_en _)) ?_
        have HS9 : Hid (Hp w [.ob (w.heap.size) 28 (enCells ⟨l, 1, t, p, g, r, c, s⟩), .ob B1 28 (enCells ⟨l, 1, t, p, g, 0, c, emptyS⟩), .ob B2 28 (enCells ⟨l, 1, t, p, g, 0, c, emptyS⟩)] (w9.drew.setRow B1 (enCells ⟨l, 1, t, p, g, 0, c, emptyS⟩).toArray)) := ((HS8.out).drew).row 1 rfl (enCells ⟨l, 1, t, p, g, 0, c, emptyS⟩)
        refine hK.out _ _ (HS9.out.pick [0, 2] rfl) (fun hHeld => ?_)
        clear hK K
        generalize (w9.drew.setRow B1 (enCells ⟨l, 1, t, p, g, 0, c, emptyS⟩).toArray) = w10 at *
        try simp only [Act.put, List.setIfInBounds_toArray, List.set_cons_zero, List.set_cons_succ]
        refine wpAnyH_take (i := 13) (oi := { dst := some 3, op := Op.assign (Operand.tmp 66), type := 4, pos := "ref.go:24", after := #[{ on := 11, ground := Ground.data }, { on := 12, ground := Ground.chain }, { on := 0, ground := Ground.phase }, { on := 1, ground := Ground.phase }, { on := 2, ground := Ground.phase }, { on := 3, ground := Ground.phase }, { on := 4, ground := Ground.phase }, { on := 5, ground := Ground.phase }, { on := 6, ground := Ground.phase }, { on := 7, ground := Ground.phase }, { on := 8, ground := Ground.phase }, { on := 9, ground := Ground.phase }, { on := 10, ground := Ground.phase }, { on := 11, ground := Ground.phase }, { on := 12, ground := Ground.phase }], guard := none }) (v := ?q51v) rfl (by kernel_rfl) (by kernel_rfl) (by kernel_rfl) (fun _ _ _ h => h) (Or.inl ⟨by rfl, ?q51h⟩) hHeld ?q51r
        case q51h => (intro wq hSw; clear hSw; go_simp; try with_reducible rfl)
        try simp only [Act.put, List.setIfInBounds_toArray, List.set_cons_zero, List.set_cons_succ]
        refine wpAnyH_done (by kernel_rfl) ?_ _
        go_wp2_with fail
        refine bodyPost_ret (results_ob_tmp Try.results32 _ _ B1 (enCells ⟨l, 1, t, p, g, 0, c, emptyS⟩) 28 _ rfl ((HS9.out).get 1 rfl) HUE.out rfl info_en) rfl ?_
        exact ShPost.mk rfl (by show (chOkB c && isTxB t) = _; rw [HV.out]; simp [isTxB, posB, upB]; omega) (HS9.out).old
      case pos =>
        go_upto_region 10 with (fail)
        clear c1 c2
        refine wp_region_held_drew (S := fun w' => Hold w.heap.size [.ob (w.heap.size) 28 (enCells ⟨l, 1, t, p, g, r, c, s⟩), .ob B2 28 (enCells ⟨l, 1, t, p, g, 0, c, emptyS⟩)] w') (by kernel_rfl) ((HS8.out).drew.pick [0, 2] rfl) (fun hHeld => ?_)
        refine wpAnyH_take (i := 0) (oi := { dst := some 55, op := Op.load 28 (Operand.tmp 4), type := 28, pos := "ref.go:24", after := #[], guard := none }) rfl (by kernel_rfl) (by kernel_rfl) (by kernel_rfl) (fun _ _ _ h => h) (yieldsIf_load_mid (by rfl) 28 (.tmp 4) rfl B2 0 rfl (enCells ⟨l, 1, t, p, g, 0, c, emptyS⟩) _ (fun _ h => h.whole 1 rfl) HUE.out rfl (info_en)) hHeld ?_
        try simp only [Act.put, List.setIfInBounds_toArray, List.set_cons_zero, List.set_cons_succ]
        refine wpAnyH_take (i := 1) (oi := { dst := some 56, op := Op.move (Operand.tmp 5), type := 4, pos := "ref.go:24", after := #[], guard := none }) (v := ?q53v) rfl (by kernel_rfl) (by kernel_rfl) (by kernel_rfl) (fun _ _ _ h => h) (Or.inl ⟨by rfl, ?q53h⟩) hHeld ?q53r
        case q53h => (intro wq hSw; clear hSw; go_simp; try with_reducible rfl)
        try simp only [Act.put, List.setIfInBounds_toArray, List.set_cons_zero, List.set_cons_succ]
        refine wpAnyH_take (i := 2) (oi := { dst := some 57, op := Op.move (Operand.tmp 56), type := 4, pos := "ref.go:24", after := #[{ on := 1, ground := Ground.data }], guard := none }) (v := ?q54v) rfl (by kernel_rfl) (by kernel_rfl) (by kernel_rfl) (fun _ _ _ h => h) (Or.inl ⟨by rfl, ?q54h⟩) hHeld ?q54r
        case q54h => (intro wq hSw; clear hSw; go_simp; try with_reducible rfl)
        try simp only [Act.put, List.setIfInBounds_toArray, List.set_cons_zero, List.set_cons_succ]
        refine wpAnyH_take (i := 3) (oi := { dst := some 58, op := Op.fieldAddr 28 (Operand.tmp 1) 2, type := 0, pos := "ref.go:24", after := #[{ on := 2, ground := Ground.guard }], guard := some (2, true) }) (v := ?q55v) rfl (by kernel_rfl) (by kernel_rfl) (by kernel_rfl) (fun _ _ _ h => h) (Or.inl ⟨by rfl, ?q55h⟩) hHeld ?q55r
        case q55h => (intro wq hSw; clear hSw; go_simp; try with_reducible rfl)
        try simp only [Act.put, List.setIfInBounds_toArray, List.set_cons_zero, List.set_cons_succ]
        refine wpAnyH_take (i := 4) (oi := { dst := some 59, op := Op.load 3 (Operand.tmp 58), type := 3, pos := "ref.go:24", after := #[{ on := 3, ground := Ground.data }, { on := 2, ground := Ground.guard }], guard := some (2, true) }) (v := .int .i64 t) rfl (by kernel_rfl) (by kernel_rfl) (by kernel_rfl) (fun _ _ _ h => h) (Or.inl ⟨by rfl, ?q56h⟩) hHeld ?q56r
        case q56h => (intro wq hSw; have lq := hSw.at 0 rfl 2 (v := .int .i64 t) rfl; clear hSw; go_simp; try with_reducible rfl)
        try simp only [Act.put, List.setIfInBounds_toArray, List.set_cons_zero, List.set_cons_succ]
        refine wpAnyH_take (i := 5) (oi := { dst := some 60, op := Op.binOp BinOp.geq 3 (Operand.tmp 59) (Operand.const (Value.int IntKind.i64 1)) 3, type := 4, pos := "ref.go:24", after := #[{ on := 4, ground := Ground.data }, { on := 2, ground := Ground.guard }], guard := some (2, true) }) (v := .bool true) rfl (by kernel_rfl) (by kernel_rfl) (by kernel_rfl) (fun _ _ _ h => h) (Or.inl ⟨by rfl, ?q57h⟩) hHeld ?q57r
        case q57h => (intro wq hSw; clear hSw; go_simp; try with_reducible rfl)
        try simp only [Act.put, List.setIfInBounds_toArray, List.set_cons_zero, List.set_cons_succ]
        refine wpAnyH_take (i := 6) (oi := { dst := some 61, op := Op.pick (Operand.tmp 57) (Operand.tmp 60) (Operand.const (Value.bool false)), type := 4, pos := "ref.go:24", after := #[{ on := 2, ground := Ground.data }, { on := 5, ground := Ground.data }], guard := none }) (v := .bool true) rfl (by kernel_rfl) (by kernel_rfl) (by kernel_rfl) (fun _ _ _ h => h) (Or.inl ⟨by rfl, ?q58h⟩) hHeld ?q58r
        case q58h => (intro wq hSw; clear hSw; go_simp; try with_reducible rfl)
        try simp only [Act.put, List.setIfInBounds_toArray, List.set_cons_zero, List.set_cons_succ]
        refine wpAnyH_take (i := 7) (oi := { dst := some 62, op := Op.move (Operand.tmp 61), type := 4, pos := "ref.go:24", after := #[{ on := 6, ground := Ground.data }, { on := 2, ground := Ground.chain }], guard := none }) (v := ?q59v) rfl (by kernel_rfl) (by kernel_rfl) (by kernel_rfl) (fun _ _ _ h => h) (Or.inl ⟨by rfl, ?q59h⟩) hHeld ?q59r
        case q59h => (intro wq hSw; clear hSw; go_simp; try with_reducible rfl)
        try simp only [Act.put, List.setIfInBounds_toArray, List.set_cons_zero, List.set_cons_succ]
        refine wpAnyH_take (i := 8) (oi := { dst := some 63, op := Op.fieldAddr 28 (Operand.tmp 1) 2, type := 0, pos := "ref.go:24", after := #[{ on := 7, ground := Ground.guard }, { on := 12, ground := Ground.gcOnly Departure.lateStores }], guard := some (7, true) }) (v := ?q60v) rfl (by kernel_rfl) (by kernel_rfl) (by kernel_rfl) (fun _ _ _ h => h) (Or.inl ⟨by rfl, ?q60h⟩) hHeld ?q60r
        case q60h => (intro wq hSw; clear hSw; go_simp; try with_reducible rfl)
        try simp only [Act.put, List.setIfInBounds_toArray, List.set_cons_zero, List.set_cons_succ]
        refine wpAnyH_take (i := 9) (oi := { dst := some 64, op := Op.load 3 (Operand.tmp 63), type := 3, pos := "ref.go:24", after := #[{ on := 8, ground := Ground.data }, { on := 7, ground := Ground.guard }, { on := 12, ground := Ground.gcOnly Departure.lateStores }], guard := some (7, true) }) (v := .int .i64 t) rfl (by kernel_rfl) (by kernel_rfl) (by kernel_rfl) (fun _ _ _ h => h) (Or.inl ⟨by rfl, ?q61h⟩) hHeld ?q61r
        case q61h => (intro wq hSw; have lq := hSw.at 0 rfl 2 (v := .int .i64 t) rfl; clear hSw; go_simp; try with_reducible rfl)
        try simp only [Act.put, List.setIfInBounds_toArray, List.set_cons_zero, List.set_cons_succ]
        refine wpAnyH_take (i := 10) (oi := { dst := some 65, op := Op.binOp BinOp.leq 3 (Operand.tmp 64) (Operand.const (Value.int IntKind.i64 1073741824)) 3, type := 4, pos := "ref.go:24", after := #[{ on := 9, ground := Ground.data }, { on := 7, ground := Ground.guard }, { on := 12, ground := Ground.gcOnly Departure.lateStores }], guard := some (7, true) }) (v := .bool true) rfl (by kernel_rfl) (by kernel_rfl) (by kernel_rfl) (fun _ _ _ h => h) (Or.inl ⟨by rfl, ?q62h⟩) hHeld ?q62r
        case q62h => (intro wq hSw; clear hSw; go_simp; try with_reducible rfl)
        try simp only [Act.put, List.setIfInBounds_toArray, List.set_cons_zero, List.set_cons_succ]
        refine wpAnyH_take (i := 11) (oi := { dst := some 66, op := Op.pick (Operand.tmp 62) (Operand.tmp 65) (Operand.const (Value.bool false)), type := 4, pos := "ref.go:24", after := #[{ on := 7, ground := Ground.data }, { on := 10, ground := Ground.data }, { on := 12, ground := Ground.gcOnly Departure.lateStores }], guard := none }) (v := .bool true) rfl (by kernel_rfl) (by kernel_rfl) (by kernel_rfl) (fun _ _ _ h => h) (Or.inl ⟨by rfl, ?q63h⟩) hHeld ?q63r
        case q63h => (intro wq hSw; clear hSw; go_simp; try with_reducible rfl)
        try simp only [Act.put, List.setIfInBounds_toArray, List.set_cons_zero, List.set_cons_succ]
        refine wpAnyH_ready (rs := [12]) (by kernel_rfl) (by simp) ?_
        refine AllReadyH.cons (o := { dst := none, op := Op.store 28 (Operand.tmp 2) (Operand.tmp 55), type := 0, pos := "ref.go:24", after := #[{ on := 0, ground := Ground.data }, { on := 7, ground := Ground.chain }, { on := 0, ground := Ground.phase }, { on := 1, ground := Ground.textOnly Departure.lateStores }, { on := 2, ground := Ground.textOnly Departure.lateStores }, { on := 3, ground := Ground.textOnly Departure.lateStores }, { on := 4, ground := Ground.textOnly Departure.lateStores }, { on := 5, ground := Ground.textOnly Departure.lateStores }, { on := 6, ground := Ground.textOnly Departure.lateStores }, { on := 7, ground := Ground.textOnly Departure.lateStores }, { on := 8, ground := Ground.textOnly Departure.lateStores }, { on := 9, ground := Ground.textOnly Departure.lateStores }, { on := 10, ground := Ground.textOnly Departure.lateStores }, { on := 11, ground := Ground.textOnly Departure.lateStores }], guard := none }) rfl (fun K hK => ?_) (AllReadyH.nil)
        rw [if_pos (by rfl)]
        refine wp_store_ob 28 (.tmp 2) (.tmp 55) B1 (enCells ⟨l, 1, t, p, g, 0, c, emptyS⟩) (enCells enNil) 28 rfl rfl rfl rfl (((HS8.out).drew).get 1 rfl) (info_en) (rfl) ((oneCell_en _)) ?_
        have HS9 : Hid (Hp w [.ob (w.heap.size) 28 (enCells ⟨l, 1, t, p, g, r, c, s⟩), .ob B1 28 (enCells ⟨l, 1, t, p, g, 0, c, emptyS⟩), .ob B2 28 (enCells ⟨l, 1, t, p, g, 0, c, emptyS⟩)] (w9.drew.setRow B1 (enCells ⟨l, 1, t, p, g, 0, c, emptyS⟩).toArray)) := ((HS8.out).drew).row 1 rfl (enCells ⟨l, 1, t, p, g, 0, c, emptyS⟩)
        refine hK.out _ _ (HS9.out.pick [0, 2] rfl) (fun hHeld => ?_)
        clear hK K
        generalize (w9.drew.setRow B1 (enCells ⟨l, 1, t, p, g, 0, c, emptyS⟩).toArray) = w10 at *
        try simp only [Act.put, List.setIfInBounds_toArray, List.set_cons_zero, List.set_cons_succ]
        refine wpAnyH_take (i := 13) (oi := { dst := some 3, op := Op.assign (Operand.tmp 66), type := 4, pos := "ref.go:24", after := #[{ on := 11, ground := Ground.data }, { on := 12, ground := Ground.chain }, { on := 0, ground := Ground.phase }, { on := 1, ground := Ground.phase }, { on := 2, ground := Ground.phase }, { on := 3, ground := Ground.phase }, { on := 4, ground := Ground.phase }, { on := 5, ground := Ground.phase }, { on := 6, ground := Ground.phase }, { on := 7, ground := Ground.phase }, { on := 8, ground := Ground.phase }, { on := 9, ground := Ground.phase }, { on := 10, ground := Ground.phase }, { on := 11, ground := Ground.phase }, { on := 12, ground := Ground.phase }], guard := none }) (v := ?q64v) rfl (by kernel_rfl) (by kernel_rfl) (by kernel_rfl) (fun _ _ _ h => h) (Or.inl ⟨by rfl, ?q64h⟩) hHeld ?q64r
        case q64h => (intro wq hSw; clear hSw; go_simp; try with_reducible rfl)
        try simp only [Act.put, List.setIfInBounds_toArray, List.set_cons_zero, List.set_cons_succ]
        refine wpAnyH_done (by kernel_rfl) ?_ _
        go_wp2_with fail
        refine bodyPost_ret (results_ob_tmp Try.results32 _ _ B1 (enCells ⟨l, 1, t, p, g, 0, c, emptyS⟩) 28 _ rfl ((HS9.out).get 1 rfl) HUE.out rfl info_en) rfl ?_
        exact ShPost.mk rfl (by show (chOkB c && isTxB t) = _; rw [HV.out]; simp [isTxB, posB, upB]; omega) (HS9.out).old
end Go.Proofs.Ytgljhfofikjbdaa
/- the same, of kind 2 -/
namespace Go.Proofs.Ytgljhfofikjbdaa
open Go.RowKit
set_option maxRecDepth 20000
set_option linter.unusedSimpArgs false
set_option linter.unusedVariables false

set_option maxHeartbeats 8000000 in
theorem shape_k2 (l t p g r : Int) (c : Chg) (s : ByteArray) (w : World) (hc : GoodCh c) (hs : s.size ≤ maxLen) : Calls Try.prog 32 #[.agg (enCells ⟨l, 2, t, p, g, r, c, s⟩).toArray] w (ShPost ⟨l, 2, t, p, g, r, c, s⟩ w) := by
  have HC := Lib.hid hc
  have HBl := Lib.hid hs
  obtain ⟨fsHUE, huHUE⟩ := under_en
  have HUE := Lib.hid huHUE
  clear huHUE
  obtain ⟨fsHUC, huHUC⟩ := under_ch
  have HUC := Lib.hid huHUC
  clear huHUC
  have h1 := ((Hp.start w).put 28 (enCells ⟨l, 2, t, p, g, r, c, s⟩)).put 28 (enCells enNil)
  simp only [List.nil_append, List.cons_append, World.size_alloc] at h1
  have HS0 : Hid (Hp w [.ob w.heap.size 28 (enCells ⟨l, 2, t, p, g, r, c, s⟩), .ob (w.heap.size + 1) 28 (enCells enNil)] ((w.alloc (.cells (enCells ⟨l, 2, t, p, g, r, c, s⟩).toArray 28)).alloc (.cells #[.int .i64 0, .int .i64 0, .int .i64 0, .int .i64 0, .int .i64 0, .int .i64 0, .int .i64 0, .int .i64 0, .bool false, .string ⟨#[]⟩, .bool false, .string ⟨#[]⟩, .string ⟨#[]⟩] 28))) := h1
  clear h1 hc hs
  go_enter Try.func32, Try.ntmps32
  go_upto_region 1 with (fail)
  have HS2 : Hid (Hp w [.ob (w.heap.size) 28 (enCells ⟨l, 2, t, p, g, r, c, s⟩), .ob ((w.heap.size + 1)) 28 (enCells enNil)] ((w.alloc (.cells (enCells ⟨l, 2, t, p, g, r, c, s⟩).toArray 28)).alloc (.cells #[.int .i64 0, .int .i64 0, .int .i64 0, .int .i64 0, .int .i64 0, .int .i64 0, .int .i64 0, .int .i64 0, .bool false, .string ⟨#[]⟩, .bool false, .string ⟨#[]⟩, .string ⟨#[]⟩] 28))) := HS0.out
  clear HS0
  generalize (w.alloc (.cells (enCells ⟨l, 2, t, p, g, r, c, s⟩).toArray 28)).alloc (.cells #[.int .i64 0, .int .i64 0, .int .i64 0, .int .i64 0, .int .i64 0, .int .i64 0, .int .i64 0, .int .i64 0, .bool false, .string ⟨#[]⟩, .bool false, .string ⟨#[]⟩, .string ⟨#[]⟩] 28) = w3 at *
  generalize (w.heap.size + 1) = B1 at *
  have c0 : w3.cell? ⟨(w.heap.size), 0, none⟩ = some (.int .i64 l) := (HS2.out).at 0 rfl 0 rfl
  have c1 : w3.cell? ⟨(w.heap.size), 1, none⟩ = some (.int .i64 2) := (HS2.out).at 0 rfl 1 rfl
  go_upto_region 2 with (first | ((with_reducible refine wpList_build_v (d := some 10) 28 (.agg (enCells ⟨l, 2, 0, 0, 0, 0, chNil, emptyS⟩).toArray) ?_ ?_); (intro W; simp only [List.map_toArray, List.map_cons, List.map_nil]; exact build_two l 2 W); simp only [Act.put, List.setIfInBounds_toArray, List.set_cons_zero, List.set_cons_succ]) | ((with_reducible refine wpList_alloc_ob 28 (enCells enNil) ?_ ?_); (exact alloc_en); simp only [Act.put, List.setIfInBounds_toArray, List.set_cons_zero, List.set_cons_succ]) | ((with_reducible refine wpList_store_ob 28 (.tmp 4) (w3.heap.size) (enCells ⟨l, 2, 0, 0, 0, 0, chNil, emptyS⟩) (enCells enNil) 28 ?_ ?_ ?_ ?_ ?_ ?_ ?_); (exact rfl); (exact rfl); (exact ((HS2.out).put 28 (enCells enNil)).get 2 rfl); (exact info_en); (exact rfl); (exact (oneCell_en _)); skip))
  have HS3 : Hid (Hp w [.ob (w.heap.size) 28 (enCells ⟨l, 2, t, p, g, r, c, s⟩), .ob B1 28 (enCells enNil), .ob (w3.heap.size) 28 (enCells ⟨l, 2, 0, 0, 0, 0, chNil, emptyS⟩)] ((w3.alloc (.cells (enCells enNil).toArray 28)).setRow (w3.heap.size) (enCells ⟨l, 2, 0, 0, 0, 0, chNil, emptyS⟩).toArray)) := ((HS2.out).put 28 (enCells enNil)).row 2 rfl (enCells ⟨l, 2, 0, 0, 0, 0, chNil, emptyS⟩)
  clear HS2
  generalize ((w3.alloc (.cells (enCells enNil).toArray 28)).setRow (w3.heap.size) (enCells ⟨l, 2, 0, 0, 0, 0, chNil, emptyS⟩).toArray) = w4 at *
  generalize w3.heap.size = B2 at *
  clear c0 c1
  have c1 : w4.cell? ⟨(w.heap.size), 1, none⟩ = some (.int .i64 2) := (HS3.out).at 0 rfl 1 rfl
  go_upto_region 5 with (fail)
  clear c1
  refine wp_region_held_drew (S := fun w' => Hold w.heap.size [.ob (w.heap.size) 28 (enCells ⟨l, 2, t, p, g, r, c, s⟩)] w') (by kernel_rfl) ((HS3.out).drew.pick [0] rfl) (fun hHeld => ?_)
  refine wpAnyH_take (i := 0) (oi := { dst := some 16, op := Op.fieldAddr 28 (Operand.tmp 1) 2, type := 0, pos := "ref.go:18", after := #[], guard := none }) (v := ?q1v) rfl (by kernel_rfl) (by kernel_rfl) (by kernel_rfl) (fun _ _ _ h => h) (Or.inl ⟨by rfl, ?q1h⟩) hHeld ?q1r
  case q1h => (intro wq hSw; clear hSw; go_simp; try with_reducible rfl)
  try simp only [Act.put, List.setIfInBounds_toArray, List.set_cons_zero, List.set_cons_succ]
  refine wpAnyH_take (i := 1) (oi := { dst := some 17, op := Op.load 3 (Operand.tmp 16), type := 3, pos := "ref.go:18", after := #[{ on := 0, ground := Ground.data }], guard := none }) (v := .int .i64 t) rfl (by kernel_rfl) (by kernel_rfl) (by kernel_rfl) (fun _ _ _ h => h) (Or.inl ⟨by rfl, ?q2h⟩) hHeld ?q2r
  case q2h => (intro wq hSw; have lq := hSw.at 0 rfl 2 (v := .int .i64 t) rfl; clear hSw; go_simp; try with_reducible rfl)
  try simp only [Act.put, List.setIfInBounds_toArray, List.set_cons_zero, List.set_cons_succ]
  refine wpAnyH_take (i := 2) (oi := { dst := some 18, op := Op.fieldAddr 28 (Operand.tmp 1) 3, type := 0, pos := "ref.go:18", after := #[{ on := 9, ground := Ground.gcOnly Departure.lateStores }], guard := none }) (v := ?q3v) rfl (by kernel_rfl) (by kernel_rfl) (by kernel_rfl) (fun _ _ _ h => h) (Or.inl ⟨by rfl, ?q3h⟩) hHeld ?q3r
  case q3h => (intro wq hSw; clear hSw; go_simp; try with_reducible rfl)
  try simp only [Act.put, List.setIfInBounds_toArray, List.set_cons_zero, List.set_cons_succ]
  refine wpAnyH_take (i := 3) (oi := { dst := some 19, op := Op.load 3 (Operand.tmp 18), type := 3, pos := "ref.go:18", after := #[{ on := 2, ground := Ground.data }, { on := 9, ground := Ground.gcOnly Departure.lateStores }], guard := none }) (v := .int .i64 p) rfl (by kernel_rfl) (by kernel_rfl) (by kernel_rfl) (fun _ _ _ h => h) (Or.inl ⟨by rfl, ?q4h⟩) hHeld ?q4r
  case q4h => (intro wq hSw; have lq := hSw.at 0 rfl 3 (v := .int .i64 p) rfl; clear hSw; go_simp; try with_reducible rfl)
  try simp only [Act.put, List.setIfInBounds_toArray, List.set_cons_zero, List.set_cons_succ]
  refine wpAnyH_take (i := 4) (oi := { dst := some 20, op := Op.fieldAddr 28 (Operand.tmp 1) 4, type := 0, pos := "ref.go:18", after := #[{ on := 11, ground := Ground.gcOnly Departure.lateStores }], guard := none }) (v := ?q5v) rfl (by kernel_rfl) (by kernel_rfl) (by kernel_rfl) (fun _ _ _ h => h) (Or.inl ⟨by rfl, ?q5h⟩) hHeld ?q5r
  case q5h => (intro wq hSw; clear hSw; go_simp; try with_reducible rfl)
  try simp only [Act.put, List.setIfInBounds_toArray, List.set_cons_zero, List.set_cons_succ]
  refine wpAnyH_take (i := 5) (oi := { dst := some 21, op := Op.load 3 (Operand.tmp 20), type := 3, pos := "ref.go:18", after := #[{ on := 4, ground := Ground.data }, { on := 11, ground := Ground.gcOnly Departure.lateStores }], guard := none }) (v := .int .i64 g) rfl (by kernel_rfl) (by kernel_rfl) (by kernel_rfl) (fun _ _ _ h => h) (Or.inl ⟨by rfl, ?q6h⟩) hHeld ?q6r
  case q6h => (intro wq hSw; have lq := hSw.at 0 rfl 4 (v := .int .i64 g) rfl; clear hSw; go_simp; try with_reducible rfl)
  try simp only [Act.put, List.setIfInBounds_toArray, List.set_cons_zero, List.set_cons_succ]
  refine wpAnyH_take (i := 6) (oi := { dst := some 22, op := Op.fieldAddr 28 (Operand.tmp 1) 6, type := 0, pos := "ref.go:18", after := #[{ on := 13, ground := Ground.gcOnly Departure.lateStores }], guard := none }) (v := ?q7v) rfl (by kernel_rfl) (by kernel_rfl) (by kernel_rfl) (fun _ _ _ h => h) (Or.inl ⟨by rfl, ?q7h⟩) hHeld ?q7r
  case q7h => (intro wq hSw; clear hSw; go_simp; try with_reducible rfl)
  try simp only [Act.put, List.setIfInBounds_toArray, List.set_cons_zero, List.set_cons_succ]
  refine wpAnyH_take (i := 7) (oi := { dst := some 23, op := Op.load 26 (Operand.tmp 22), type := 26, pos := "ref.go:18", after := #[{ on := 6, ground := Ground.data }, { on := 13, ground := Ground.gcOnly Departure.lateStores }], guard := none }) rfl (by kernel_rfl) (by kernel_rfl) (by kernel_rfl) (fun _ _ _ h => h) (yieldsIf_load_mid (by rfl) 26 (.tmp 22) rfl (w.heap.size) (6) rfl (chCells c) _ (fun _ h => h.mid 0 rfl (6) _ ((mid_6 ⟨l, 2, t, p, g, r, c, s⟩))) HUC.out rfl (info_ch)) hHeld ?_
  try simp only [Act.put, List.setIfInBounds_toArray, List.set_cons_zero, List.set_cons_succ]
  refine wpAnyH_take (i := 8) (oi := { dst := some 24, op := Op.fieldAddr 28 (Operand.tmp 4) 2, type := 0, pos := "ref.go:18", after := #[{ on := 0, ground := Ground.phase }, { on := 1, ground := Ground.phase }, { on := 2, ground := Ground.textOnly Departure.lateStores }, { on := 3, ground := Ground.textOnly Departure.lateStores }, { on := 4, ground := Ground.textOnly Departure.lateStores }, { on := 5, ground := Ground.textOnly Departure.lateStores }, { on := 6, ground := Ground.textOnly Departure.lateStores }, { on := 7, ground := Ground.textOnly Departure.lateStores }], guard := none }) (v := ?q9v) rfl (by kernel_rfl) (by kernel_rfl) (by kernel_rfl) (fun _ _ _ h => h) (Or.inl ⟨by rfl, ?q9h⟩) hHeld ?q9r
  case q9h => (intro wq hSw; clear hSw; go_simp; try with_reducible rfl)
  try simp only [Act.put, List.setIfInBounds_toArray, List.set_cons_zero, List.set_cons_succ]
  refine wpAnyH_ready (rs := [9]) (by kernel_rfl) (by simp) ?_
  refine AllReadyH.cons (o := { dst := none, op := Op.store 3 (Operand.tmp 24) (Operand.tmp 17), type := 0, pos := "ref.go:18", after := #[{ on := 8, ground := Ground.data }, { on := 1, ground := Ground.data }, { on := 0, ground := Ground.phase }, { on := 1, ground := Ground.phase }, { on := 2, ground := Ground.textOnly Departure.lateStores }, { on := 3, ground := Ground.textOnly Departure.lateStores }, { on := 4, ground := Ground.textOnly Departure.lateStores }, { on := 5, ground := Ground.textOnly Departure.lateStores }, { on := 6, ground := Ground.textOnly Departure.lateStores }, { on := 7, ground := Ground.textOnly Departure.lateStores }], guard := none }) rfl (fun K hK => ?_) (AllReadyH.nil)
  rw [if_pos (by rfl)]
  refine wp_store_fld 3 (.tmp 24) (.tmp 17) B2 2 (.int .i64 t) ([.int .i64 t]) (enCells ⟨l, 2, 0, 0, 0, 0, chNil, emptyS⟩) (enCells ⟨l, 2, t, 0, 0, 0, chNil, emptyS⟩) 28 rfl rfl rfl rfl rfl (((HS3.out).drew).get 2 rfl) (Nat.le_of_ble_eq_true rfl) (info_int1) ((one_int _ _)) rfl ?_
  have HS4 : Hid (Hp w [.ob (w.heap.size) 28 (enCells ⟨l, 2, t, p, g, r, c, s⟩), .ob B1 28 (enCells enNil), .ob B2 28 (enCells ⟨l, 2, t, 0, 0, 0, chNil, emptyS⟩)] (w4.drew.setRow B2 (enCells ⟨l, 2, t, 0, 0, 0, chNil, emptyS⟩).toArray)) := ((HS3.out).drew).row 2 rfl (enCells ⟨l, 2, t, 0, 0, 0, chNil, emptyS⟩)
  refine hK.out _ _ (HS4.out.pick [0] rfl) (fun hHeld => ?_)
  clear hK K
  generalize (w4.drew.setRow B2 (enCells ⟨l, 2, t, 0, 0, 0, chNil, emptyS⟩).toArray) = w5 at *
  try simp only [Act.put, List.setIfInBounds_toArray, List.set_cons_zero, List.set_cons_succ]
  refine wpAnyH_take (i := 10) (oi := { dst := some 25, op := Op.fieldAddr 28 (Operand.tmp 4) 3, type := 0, pos := "ref.go:18", after := #[{ on := 0, ground := Ground.phase }, { on := 1, ground := Ground.phase }, { on := 2, ground := Ground.phase }, { on := 3, ground := Ground.phase }, { on := 4, ground := Ground.textOnly Departure.lateStores }, { on := 5, ground := Ground.textOnly Departure.lateStores }, { on := 6, ground := Ground.textOnly Departure.lateStores }, { on := 7, ground := Ground.textOnly Departure.lateStores }, { on := 8, ground := Ground.phase }, { on := 9, ground := Ground.phase }], guard := none }) (v := ?q10v) rfl (by kernel_rfl) (by kernel_rfl) (by kernel_rfl) (fun _ _ _ h => h) (Or.inl ⟨by rfl, ?q10h⟩) hHeld ?q10r
  case q10h => (intro wq hSw; clear hSw; go_simp; try with_reducible rfl)
  try simp only [Act.put, List.setIfInBounds_toArray, List.set_cons_zero, List.set_cons_succ]
  refine wpAnyH_ready (rs := [11]) (by kernel_rfl) (by simp) ?_
  refine AllReadyH.cons (o := { dst := none, op := Op.store 3 (Operand.tmp 25) (Operand.tmp 19), type := 0, pos := "ref.go:18", after := #[{ on := 10, ground := Ground.data }, { on := 3, ground := Ground.data }, { on := 9, ground := Ground.chain }, { on := 0, ground := Ground.phase }, { on := 1, ground := Ground.phase }, { on := 2, ground := Ground.phase }, { on := 3, ground := Ground.phase }, { on := 4, ground := Ground.textOnly Departure.lateStores }, { on := 5, ground := Ground.textOnly Departure.lateStores }, { on := 6, ground := Ground.textOnly Departure.lateStores }, { on := 7, ground := Ground.textOnly Departure.lateStores }, { on := 8, ground := Ground.phase }, { on := 9, ground := Ground.phase }], guard := none }) rfl (fun K hK => ?_) (AllReadyH.nil)
  rw [if_pos (by rfl)]
  refine wp_store_fld 3 (.tmp 25) (.tmp 19) B2 3 (.int .i64 p) ([.int .i64 p]) (enCells ⟨l, 2, t, 0, 0, 0, chNil, emptyS⟩) (enCells ⟨l, 2, t, p, 0, 0, chNil, emptyS⟩) 28 rfl rfl rfl rfl rfl ((HS4.out).get 2 rfl) (Nat.le_of_ble_eq_true rfl) (info_int1) ((one_int _ _)) rfl ?_
  have HS5 : Hid (Hp w [.ob (w.heap.size) 28 (enCells ⟨l, 2, t, p, g, r, c, s⟩), .ob B1 28 (enCells enNil), .ob B2 28 (enCells ⟨l, 2, t, p, 0, 0, chNil, emptyS⟩)] (w5.setRow B2 (enCells ⟨l, 2, t, p, 0, 0, chNil, emptyS⟩).toArray)) := (HS4.out).row 2 rfl (enCells ⟨l, 2, t, p, 0, 0, chNil, emptyS⟩)
  refine hK.out _ _ (HS5.out.pick [0] rfl) (fun hHeld => ?_)
  clear hK K
  generalize (w5.setRow B2 (enCells ⟨l, 2, t, p, 0, 0, chNil, emptyS⟩).toArray) = w6 at *
  try simp only [Act.put, List.setIfInBounds_toArray, List.set_cons_zero, List.set_cons_succ]
  refine wpAnyH_take (i := 12) (oi := { dst := some 26, op := Op.fieldAddr 28 (Operand.tmp 4) 4, type := 0, pos := "ref.go:18", after := #[{ on := 0, ground := Ground.phase }, { on := 1, ground := Ground.phase }, { on := 2, ground := Ground.phase }, { on := 3, ground := Ground.phase }, { on := 4, ground := Ground.phase }, { on := 5, ground := Ground.phase }, { on := 6, ground := Ground.textOnly Departure.lateStores }, { on := 7, ground := Ground.textOnly Departure.lateStores }, { on := 8, ground := Ground.phase }, { on := 9, ground := Ground.phase }, { on := 10, ground := Ground.phase }, { on := 11, ground := Ground.phase }], guard := none }) (v := ?q11v) rfl (by kernel_rfl) (by kernel_rfl) (by kernel_rfl) (fun _ _ _ h => h) (Or.inl ⟨by rfl, ?q11h⟩) hHeld ?q11r
  case q11h => (intro wq hSw; clear hSw; go_simp; try with_reducible rfl)
  try simp only [Act.put, List.setIfInBounds_toArray, List.set_cons_zero, List.set_cons_succ]
  refine wpAnyH_ready (rs := [13]) (by kernel_rfl) (by simp) ?_
  refine AllReadyH.cons (o := { dst := none, op := Op.store 3 (Operand.tmp 26) (Operand.tmp 21), type := 0, pos := "ref.go:18", after := #[{ on := 12, ground := Ground.data }, { on := 5, ground := Ground.data }, { on := 11, ground := Ground.chain }, { on := 0, ground := Ground.phase }, { on := 1, ground := Ground.phase }, { on := 2, ground := Ground.phase }, { on := 3, ground := Ground.phase }, { on := 4, ground := Ground.phase }, { on := 5, ground := Ground.phase }, { on := 6, ground := Ground.textOnly Departure.lateStores }, { on := 7, ground := Ground.textOnly Departure.lateStores }, { on := 8, ground := Ground.phase }, { on := 9, ground := Ground.phase }, { on := 10, ground := Ground.phase }, { on := 11, ground := Ground.phase }], guard := none }) rfl (fun K hK => ?_) (AllReadyH.nil)
  rw [if_pos (by rfl)]
  refine wp_store_fld 3 (.tmp 26) (.tmp 21) B2 4 (.int .i64 g) ([.int .i64 g]) (enCells ⟨l, 2, t, p, 0, 0, chNil, emptyS⟩) (enCells ⟨l, 2, t, p, g, 0, chNil, emptyS⟩) 28 rfl rfl rfl rfl rfl ((HS5.out).get 2 rfl) (Nat.le_of_ble_eq_true rfl) (info_int1) ((one_int _ _)) rfl ?_
  have HS6 : Hid (Hp w [.ob (w.heap.size) 28 (enCells ⟨l, 2, t, p, g, r, c, s⟩), .ob B1 28 (enCells enNil), .ob B2 28 (enCells ⟨l, 2, t, p, g, 0, chNil, emptyS⟩)] (w6.setRow B2 (enCells ⟨l, 2, t, p, g, 0, chNil, emptyS⟩).toArray)) := (HS5.out).row 2 rfl (enCells ⟨l, 2, t, p, g, 0, chNil, emptyS⟩)
  refine hK.out _ _ (HS6.out.pick [0] rfl) (fun hHeld => ?_)
  clear hK K
  generalize (w6.setRow B2 (enCells ⟨l, 2, t, p, g, 0, chNil, emptyS⟩).toArray) = w7 at *
  try simp only [Act.put, List.setIfInBounds_toArray, List.set_cons_zero, List.set_cons_succ]
  refine wpAnyH_take (i := 14) (oi := { dst := some 27, op := Op.fieldAddr 28 (Operand.tmp 4) 6, type := 0, pos := "ref.go:18", after := #[{ on := 0, ground := Ground.phase }, { on := 1, ground := Ground.phase }, { on := 2, ground := Ground.phase }, { on := 3, ground := Ground.phase }, { on := 4, ground := Ground.phase }, { on := 5, ground := Ground.phase }, { on := 6, ground := Ground.phase }, { on := 7, ground := Ground.phase }, { on := 8, ground := Ground.phase }, { on := 9, ground := Ground.phase }, { on := 10, ground := Ground.phase }, { on := 11, ground := Ground.phase }, { on := 12, ground := Ground.phase }, { on := 13, ground := Ground.phase }], guard := none }) (v := ?q12v) rfl (by kernel_rfl) (by kernel_rfl) (by kernel_rfl) (fun _ _ _ h => h) (Or.inl ⟨by rfl, ?q12h⟩) hHeld ?q12r
  case q12h => (intro wq hSw; clear hSw; go_simp; try with_reducible rfl)
  try simp only [Act.put, List.setIfInBounds_toArray, List.set_cons_zero, List.set_cons_succ]
  refine wpAnyH_ready (rs := [15]) (by kernel_rfl) (by simp) ?_
  refine AllReadyH.cons (o := { dst := none, op := Op.store 26 (Operand.tmp 27) (Operand.tmp 23), type := 0, pos := "ref.go:18", after := #[{ on := 14, ground := Ground.data }, { on := 7, ground := Ground.data }, { on := 13, ground := Ground.chain }, { on := 0, ground := Ground.phase }, { on := 1, ground := Ground.phase }, { on := 2, ground := Ground.phase }, { on := 3, ground := Ground.phase }, { on := 4, ground := Ground.phase }, { on := 5, ground := Ground.phase }, { on := 6, ground := Ground.phase }, { on := 7, ground := Ground.phase }, { on := 8, ground := Ground.phase }, { on := 9, ground := Ground.phase }, { on := 10, ground := Ground.phase }, { on := 11, ground := Ground.phase }, { on := 12, ground := Ground.phase }, { on := 13, ground := Ground.phase }], guard := none }) rfl (fun K hK => ?_) (AllReadyH.nil)
  rw [if_pos (by rfl)]
  refine wp_store_fld 26 (.tmp 27) (.tmp 23) B2 6 (.agg (chCells c).toArray) (chCells c) (enCells ⟨l, 2, t, p, g, 0, chNil, emptyS⟩) (enCells ⟨l, 2, t, p, g, 0, c, emptyS⟩) 28 rfl rfl rfl rfl rfl ((HS6.out).get 2 rfl) (Nat.le_of_ble_eq_true rfl) (info_ch) ((oneCell_ch _)) rfl ?_
  have HS7 : Hid (Hp w [.ob (w.heap.size) 28 (enCells ⟨l, 2, t, p, g, r, c, s⟩), .ob B1 28 (enCells enNil), .ob B2 28 (enCells ⟨l, 2, t, p, g, 0, c, emptyS⟩)] (w7.setRow B2 (enCells ⟨l, 2, t, p, g, 0, c, emptyS⟩).toArray)) := (HS6.out).row 2 rfl (enCells ⟨l, 2, t, p, g, 0, c, emptyS⟩)
  refine hK.out _ _ (HS7.out.pick [0] rfl) (fun hHeld => ?_)
  clear hK K
  generalize (w7.setRow B2 (enCells ⟨l, 2, t, p, g, 0, c, emptyS⟩).toArray) = w8 at *
  try simp only [Act.put, List.setIfInBounds_toArray, List.set_cons_zero, List.set_cons_succ]
  refine wpAnyH_done (by kernel_rfl) ?_ _
  go_wp2_with (first | ((with_reducible refine wpList_load_at 26 (.tmp 28) (w.heap.size) (6) (chCells c) HUC.out ?_ ?_ ?_ ?_ ?_); (exact rfl); (exact (HS7.out).mid 0 rfl (6) _ ((mid_6 ⟨l, 2, t, p, g, r, c, s⟩))); (exact rfl); (exact info_ch); simp only [Act.put, List.setIfInBounds_toArray, List.set_cons_zero, List.set_cons_succ]))
  refine (rvalid_ch c _ HC.out.before HC.out.after).mono ?_
  rintro e w9 ⟨rfl, hb⟩
  have HS8 : Hid (Hp w [.ob (w.heap.size) 28 (enCells ⟨l, 2, t, p, g, r, c, s⟩), .ob B1 28 (enCells enNil), .ob B2 28 (enCells ⟨l, 2, t, p, g, 0, c, emptyS⟩)] w9) := (HS7.out).calls hb
  clear hb
  clear HS7
  obtain ⟨b5, hb5⟩ : ∃ b, chOkB c = b := ⟨_, rfl⟩
  have HV := Lib.hid hb5
  rw [hb5]
  clear hb5
  have c1 : w9.cell? ⟨(w.heap.size), 1, none⟩ = some (.int .i64 2) := (HS8.out).at 0 rfl 1 rfl
  have c2 : w9.cell? ⟨(w.heap.size), 2, none⟩ = some (.int .i64 t) := (HS8.out).at 0 rfl 2 rfl
  have c3 : w9.cell? ⟨(w.heap.size), 3, none⟩ = some (.int .i64 p) := (HS8.out).at 0 rfl 3 rfl
  have c5 : w9.cell? ⟨(w.heap.size), 5, none⟩ = some (.int .i64 r) := (HS8.out).at 0 rfl 5 rfl
  cases b5
  case false =>
    go_upto_region 9 with (first | ((with_reducible refine wpList_store_fld 3 (.tmp 36) (.tmp 35) B2 5 (.int .i64 r) ([.int .i64 r]) (enCells ⟨l, 2, t, p, g, 0, c, emptyS⟩) (enCells ⟨l, 2, t, p, g, r, c, emptyS⟩) 28 ?_ ?_ ?_ ?_ ?_ ?_ ?_ ?_ ?_); (exact rfl); (exact rfl); (exact rfl); (exact (HS8.out).get 2 rfl); (exact (Nat.le_of_ble_eq_true rfl)); (exact info_int1); (exact (one_int _ _)); (exact rfl); skip))
    have HS9 : Hid (Hp w [.ob (w.heap.size) 28 (enCells ⟨l, 2, t, p, g, r, c, s⟩), .ob B1 28 (enCells enNil), .ob B2 28 (enCells ⟨l, 2, t, p, g, r, c, emptyS⟩)] (w9.setRow B2 (enCells ⟨l, 2, t, p, g, r, c, emptyS⟩).toArray)) := (HS8.out).row 2 rfl (enCells ⟨l, 2, t, p, g, r, c, emptyS⟩)
    clear HS8
    generalize (w9.setRow B2 (enCells ⟨l, 2, t, p, g, r, c, emptyS⟩).toArray) = w10 at *
    clear c1 c2 c3 c5
    have c3 : w10.cell? ⟨(w.heap.size), 3, none⟩ = some (.int .i64 p) := (HS9.out).at 0 rfl 3 rfl
    have c5 : w10.cell? ⟨(w.heap.size), 5, none⟩ = some (.int .i64 r) := (HS9.out).at 0 rfl 5 rfl
    go_upto_region 10 with (fail)
    clear c3 c5
    refine wp_region_held_drew (S := fun w' => Hold w.heap.size [.ob (w.heap.size) 28 (enCells ⟨l, 2, t, p, g, r, c, s⟩), .ob B2 28 (enCells ⟨l, 2, t, p, g, r, c, emptyS⟩)] w') (by kernel_rfl) ((HS9.out).drew.pick [0, 2] rfl) (fun hHeld => ?_)
    refine wpAnyH_take (i := 0) (oi := { dst := some 55, op := Op.load 28 (Operand.tmp 4), type := 28, pos := "ref.go:24", after := #[], guard := none }) rfl (by kernel_rfl) (by kernel_rfl) (by kernel_rfl) (fun _ _ _ h => h) (yieldsIf_load_mid (by rfl) 28 (.tmp 4) rfl B2 0 rfl (enCells ⟨l, 2, t, p, g, r, c, emptyS⟩) _ (fun _ h => h.whole 1 rfl) HUE.out rfl (info_en)) hHeld ?_
    try simp only [Act.put, List.setIfInBounds_toArray, List.set_cons_zero, List.set_cons_succ]
    refine wpAnyH_take (i := 1) (oi := { dst := some 56, op := Op.move (Operand.tmp 5), type := 4, pos := "ref.go:24", after := #[], guard := none }) (v := ?q14v) rfl (by kernel_rfl) (by kernel_rfl) (by kernel_rfl) (fun _ _ _ h => h) (Or.inl ⟨by rfl, ?q14h⟩) hHeld ?q14r
    case q14h => (intro wq hSw; clear hSw; go_simp; try with_reducible rfl)
    try simp only [Act.put, List.setIfInBounds_toArray, List.set_cons_zero, List.set_cons_succ]
    refine wpAnyH_take (i := 2) (oi := { dst := some 57, op := Op.move (Operand.tmp 56), type := 4, pos := "ref.go:24", after := #[{ on := 1, ground := Ground.data }], guard := none }) (v := ?q15v) rfl (by kernel_rfl) (by kernel_rfl) (by kernel_rfl) (fun _ _ _ h => h) (Or.inl ⟨by rfl, ?q15h⟩) hHeld ?q15r
    case q15h => (intro wq hSw; clear hSw; go_simp; try with_reducible rfl)
    try simp only [Act.put, List.setIfInBounds_toArray, List.set_cons_zero, List.set_cons_succ]
    refine wpAnyH_take (i := 3) (oi := { dst := some 58, op := Op.fieldAddr 28 (Operand.tmp 1) 2, type := 0, pos := "ref.go:24", after := #[{ on := 2, ground := Ground.guard }], guard := some (2, true) }) (v := undef) rfl (by kernel_rfl) (by kernel_rfl) (by kernel_rfl) (fun _ _ _ h => h) (Or.inr ⟨by rfl, rfl⟩) hHeld ?_
    try simp only [Act.put, List.setIfInBounds_toArray, List.set_cons_zero, List.set_cons_succ]
    refine wpAnyH_take (i := 4) (oi := { dst := some 59, op := Op.load 3 (Operand.tmp 58), type := 3, pos := "ref.go:24", after := #[{ on := 3, ground := Ground.data }, { on := 2, ground := Ground.guard }], guard := some (2, true) }) (v := undef) rfl (by kernel_rfl) (by kernel_rfl) (by kernel_rfl) (fun _ _ _ h => h) (Or.inr ⟨by rfl, rfl⟩) hHeld ?_
    try simp only [Act.put, List.setIfInBounds_toArray, List.set_cons_zero, List.set_cons_succ]
    refine wpAnyH_take (i := 5) (oi := { dst := some 60, op := Op.binOp BinOp.geq 3 (Operand.tmp 59) (Operand.const (Value.int IntKind.i64 1)) 3, type := 4, pos := "ref.go:24", after := #[{ on := 4, ground := Ground.data }, { on := 2, ground := Ground.guard }], guard := some (2, true) }) (v := undef) rfl (by kernel_rfl) (by kernel_rfl) (by kernel_rfl) (fun _ _ _ h => h) (Or.inr ⟨by rfl, rfl⟩) hHeld ?_
    try simp only [Act.put, List.setIfInBounds_toArray, List.set_cons_zero, List.set_cons_succ]
    refine wpAnyH_take (i := 6) (oi := { dst := some 61, op := Op.pick (Operand.tmp 57) (Operand.tmp 60) (Operand.const (Value.bool false)), type := 4, pos := "ref.go:24", after := #[{ on := 2, ground := Ground.data }, { on := 5, ground := Ground.data }], guard := none }) (v := .bool false) rfl (by kernel_rfl) (by kernel_rfl) (by kernel_rfl) (fun _ _ _ h => h) (Or.inl ⟨by rfl, ?q19h⟩) hHeld ?q19r
    case q19h => (intro wq hSw; clear hSw; go_simp; try with_reducible rfl)
    try simp only [Act.put, List.setIfInBounds_toArray, List.set_cons_zero, List.set_cons_succ]
    refine wpAnyH_take (i := 7) (oi := { dst := some 62, op := Op.move (Operand.tmp 61), type := 4, pos := "ref.go:24", after := #[{ on := 6, ground := Ground.data }, { on := 2, ground := Ground.chain }], guard := none }) (v := ?q20v) rfl (by kernel_rfl) (by kernel_rfl) (by kernel_rfl) (fun _ _ _ h => h) (Or.inl ⟨by rfl, ?q20h⟩) hHeld ?q20r
    case q20h => (intro wq hSw; clear hSw; go_simp; try with_reducible rfl)
    try simp only [Act.put, List.setIfInBounds_toArray, List.set_cons_zero, List.set_cons_succ]
    refine wpAnyH_take (i := 8) (oi := { dst := some 63, op := Op.fieldAddr 28 (Operand.tmp 1) 2, type := 0, pos := "ref.go:24", after := #[{ on := 7, ground := Ground.guard }, { on := 12, ground := Ground.gcOnly Departure.lateStores }], guard := some (7, true) }) (v := undef) rfl (by kernel_rfl) (by kernel_rfl) (by kernel_rfl) (fun _ _ _ h => h) (Or.inr ⟨by rfl, rfl⟩) hHeld ?_
    try simp only [Act.put, List.setIfInBounds_toArray, List.set_cons_zero, List.set_cons_succ]
    refine wpAnyH_take (i := 9) (oi := { dst := some 64, op := Op.load 3 (Operand.tmp 63), type := 3, pos := "ref.go:24", after := #[{ on := 8, ground := Ground.data }, { on := 7, ground := Ground.guard }, { on := 12, ground := Ground.gcOnly Departure.lateStores }], guard := some (7, true) }) (v := undef) rfl (by kernel_rfl) (by kernel_rfl) (by kernel_rfl) (fun _ _ _ h => h) (Or.inr ⟨by rfl, rfl⟩) hHeld ?_
    try simp only [Act.put, List.setIfInBounds_toArray, List.set_cons_zero, List.set_cons_succ]
    refine wpAnyH_take (i := 10) (oi := { dst := some 65, op := Op.binOp BinOp.leq 3 (Operand.tmp 64) (Operand.const (Value.int IntKind.i64 1073741824)) 3, type := 4, pos := "ref.go:24", after := #[{ on := 9, ground := Ground.data }, { on := 7, ground := Ground.guard }, { on := 12, ground := Ground.gcOnly Departure.lateStores }], guard := some (7, true) }) (v := undef) rfl (by kernel_rfl) (by kernel_rfl) (by kernel_rfl) (fun _ _ _ h => h) (Or.inr ⟨by rfl, rfl⟩) hHeld ?_
    try simp only [Act.put, List.setIfInBounds_toArray, List.set_cons_zero, List.set_cons_succ]
    refine wpAnyH_take (i := 11) (oi := { dst := some 66, op := Op.pick (Operand.tmp 62) (Operand.tmp 65) (Operand.const (Value.bool false)), type := 4, pos := "ref.go:24", after := #[{ on := 7, ground := Ground.data }, { on := 10, ground := Ground.data }, { on := 12, ground := Ground.gcOnly Departure.lateStores }], guard := none }) (v := .bool false) rfl (by kernel_rfl) (by kernel_rfl) (by kernel_rfl) (fun _ _ _ h => h) (Or.inl ⟨by rfl, ?q24h⟩) hHeld ?q24r
    case q24h => (intro wq hSw; clear hSw; go_simp; try with_reducible rfl)
    try simp only [Act.put, List.setIfInBounds_toArray, List.set_cons_zero, List.set_cons_succ]
    refine wpAnyH_ready (rs := [12]) (by kernel_rfl) (by simp) ?_
    refine AllReadyH.cons (o := { dst := none, op := Op.store 28 (Operand.tmp 2) (Operand.tmp 55), type := 0, pos := "ref.go:24", after := #[{ on := 0, ground := Ground.data }, { on := 7, ground := Ground.chain }, { on := 0, ground := Ground.phase }, { on := 1, ground := Ground.textOnly Departure.lateStores }, { on := 2, ground := Ground.textOnly Departure.lateStores }, { on := 3, ground := Ground.textOnly Departure.lateStores }, { on := 4, ground := Ground.textOnly Departure.lateStores }, { on := 5, ground := Ground.textOnly Departure.lateStores }, { on := 6, ground := Ground.textOnly Departure.lateStores }, { on := 7, ground := Ground.textOnly Departure.lateStores }, { on := 8, ground := Ground.textOnly Departure.lateStores }, { on := 9, ground := Ground.textOnly Departure.lateStores }, { on := 10, ground := Ground.textOnly Departure.lateStores }, { on := 11, ground := Ground.textOnly Departure.lateStores }], guard := none }) rfl (fun K hK => ?_) (AllReadyH.nil)
    rw [if_pos (by rfl)]
    refine wp_store_ob 28 (.tmp 2) (.tmp 55) B1 (enCells ⟨l, 2, t, p, g, r, c, emptyS⟩) (enCells enNil) 28 rfl rfl rfl rfl (((HS9.out).drew).get 1 rfl) (info_en) (rfl) ((oneCell_en _)) ?_
    have HS10 : Hid (Hp w [.ob (w.heap.size) 28 (enCells ⟨l, 2, t, p, g, r, c, s⟩), .ob B1 28 (enCells ⟨l, 2, t, p, g, r, c, emptyS⟩), .ob B2 28 (enCells ⟨l, 2, t, p, g, r, c, emptyS⟩)] (w10.drew.setRow B1 (enCells ⟨l, 2, t, p, g, r, c, emptyS⟩).toArray)) := ((HS9.out).drew).row 1 rfl (enCells ⟨l, 2, t, p, g, r, c, emptyS⟩)
    refine hK.out _ _ (HS10.out.pick [0, 2] rfl) (fun hHeld => ?_)
    clear hK K
    generalize (w10.drew.setRow B1 (enCells ⟨l, 2, t, p, g, r, c, emptyS⟩).toArray) = w11 at *
    try simp only [Act.put, List.setIfInBounds_toArray, List.set_cons_zero, List.set_cons_succ]
    refine wpAnyH_take (i := 13) (oi := { dst := some 3, op := Op.assign (Operand.tmp 66), type := 4, pos := "ref.go:24", after := #[{ on := 11, ground := Ground.data }, { on := 12, ground := Ground.chain }, { on := 0, ground := Ground.phase }, { on := 1, ground := Ground.phase }, { on := 2, ground := Ground.phase }, { on := 3, ground := Ground.phase }, { on := 4, ground := Ground.phase }, { on := 5, ground := Ground.phase }, { on := 6, ground := Ground.phase }, { on := 7, ground := Ground.phase }, { on := 8, ground := Ground.phase }, { on := 9, ground := Ground.phase }, { on := 10, ground := Ground.phase }, { on := 11, ground := Ground.phase }, { on := 12, ground := Ground.phase }], guard := none }) (v := ?q25v) rfl (by kernel_rfl) (by kernel_rfl) (by kernel_rfl) (fun _ _ _ h => h) (Or.inl ⟨by rfl, ?q25h⟩) hHeld ?q25r
    case q25h => (intro wq hSw; clear hSw; go_simp; try with_reducible rfl)
    try simp only [Act.put, List.setIfInBounds_toArray, List.set_cons_zero, List.set_cons_succ]
    refine wpAnyH_done (by kernel_rfl) ?_ _
    go_wp2_with fail
    refine bodyPost_ret (results_ob_tmp Try.results32 _ _ B1 (enCells ⟨l, 2, t, p, g, r, c, emptyS⟩) 28 _ rfl ((HS10.out).get 1 rfl) HUE.out rfl info_en) rfl ?_
    exact ShPost.mk rfl (by show (chOkB c && (posB p && (upB r p && isTxB t))) = _; rw [HV.out]; simp [isTxB, posB, upB]) (HS10.out).old
  case true =>
    by_cases p1 : 0 < p
    case neg =>
      go_upto_region 9 with (first | ((with_reducible refine wpList_store_fld 3 (.tmp 36) (.tmp 35) B2 5 (.int .i64 r) ([.int .i64 r]) (enCells ⟨l, 2, t, p, g, 0, c, emptyS⟩) (enCells ⟨l, 2, t, p, g, r, c, emptyS⟩) 28 ?_ ?_ ?_ ?_ ?_ ?_ ?_ ?_ ?_); (exact rfl); (exact rfl); (exact rfl); (exact (HS8.out).get 2 rfl); (exact (Nat.le_of_ble_eq_true rfl)); (exact info_int1); (exact (one_int _ _)); (exact rfl); skip))
      have HS9 : Hid (Hp w [.ob (w.heap.size) 28 (enCells ⟨l, 2, t, p, g, r, c, s⟩), .ob B1 28 (enCells enNil), .ob B2 28 (enCells ⟨l, 2, t, p, g, r, c, emptyS⟩)] (w9.setRow B2 (enCells ⟨l, 2, t, p, g, r, c, emptyS⟩).toArray)) := (HS8.out).row 2 rfl (enCells ⟨l, 2, t, p, g, r, c, emptyS⟩)
      clear HS8
      generalize (w9.setRow B2 (enCells ⟨l, 2, t, p, g, r, c, emptyS⟩).toArray) = w10 at *
      clear c1 c2 c3 c5
      have c3 : w10.cell? ⟨(w.heap.size), 3, none⟩ = some (.int .i64 p) := (HS9.out).at 0 rfl 3 rfl
      have c5 : w10.cell? ⟨(w.heap.size), 5, none⟩ = some (.int .i64 r) := (HS9.out).at 0 rfl 5 rfl
      go_upto_region 10 with (fail)
      clear c3 c5
      refine wp_region_held_drew (S := fun w' => Hold w.heap.size [.ob (w.heap.size) 28 (enCells ⟨l, 2, t, p, g, r, c, s⟩), .ob B2 28 (enCells ⟨l, 2, t, p, g, r, c, emptyS⟩)] w') (by kernel_rfl) ((HS9.out).drew.pick [0, 2] rfl) (fun hHeld => ?_)
      refine wpAnyH_take (i := 0) (oi := { dst := some 55, op := Op.load 28 (Operand.tmp 4), type := 28, pos := "ref.go:24", after := #[], guard := none }) rfl (by kernel_rfl) (by kernel_rfl) (by kernel_rfl) (fun _ _ _ h => h) (yieldsIf_load_mid (by rfl) 28 (.tmp 4) rfl B2 0 rfl (enCells ⟨l, 2, t, p, g, r, c, emptyS⟩) _ (fun _ h => h.whole 1 rfl) HUE.out rfl (info_en)) hHeld ?_
      try simp only [Act.put, List.setIfInBounds_toArray, List.set_cons_zero, List.set_cons_succ]
      refine wpAnyH_take (i := 1) (oi := { dst := some 56, op := Op.move (Operand.tmp 5), type := 4, pos := "ref.go:24", after := #[], guard := none }) (v := ?q27v) rfl (by kernel_rfl) (by kernel_rfl) (by kernel_rfl) (fun _ _ _ h => h) (Or.inl ⟨by rfl, ?q27h⟩) hHeld ?q27r
      case q27h => (intro wq hSw; clear hSw; go_simp; try with_reducible rfl)
      try simp only [Act.put, List.setIfInBounds_toArray, List.set_cons_zero, List.set_cons_succ]
      refine wpAnyH_take (i := 2) (oi := { dst := some 57, op := Op.move (Operand.tmp 56), type := 4, pos := "ref.go:24", after := #[{ on := 1, ground := Ground.data }], guard := none }) (v := ?q28v) rfl (by kernel_rfl) (by kernel_rfl) (by kernel_rfl) (fun _ _ _ h => h) (Or.inl ⟨by rfl, ?q28h⟩) hHeld ?q28r
      case q28h => (intro wq hSw; clear hSw; go_simp; try with_reducible rfl)
      try simp only [Act.put, List.setIfInBounds_toArray, List.set_cons_zero, List.set_cons_succ]
      refine wpAnyH_take (i := 3) (oi := { dst := some 58, op := Op.fieldAddr 28 (Operand.tmp 1) 2, type := 0, pos := "ref.go:24", after := #[{ on := 2, ground := Ground.guard }], guard := some (2, true) }) (v := undef) rfl (by kernel_rfl) (by kernel_rfl) (by kernel_rfl) (fun _ _ _ h => h) (Or.inr ⟨by rfl, rfl⟩) hHeld ?_
      try simp only [Act.put, List.setIfInBounds_toArray, List.set_cons_zero, List.set_cons_succ]
      refine wpAnyH_take (i := 4) (oi := { dst := some 59, op := Op.load 3 (Operand.tmp 58), type := 3, pos := "ref.go:24", after := #[{ on := 3, ground := Ground.data }, { on := 2, ground := Ground.guard }], guard := some (2, true) }) (v := undef) rfl (by kernel_rfl) (by kernel_rfl) (by kernel_rfl) (fun _ _ _ h => h) (Or.inr ⟨by rfl, rfl⟩) hHeld ?_
      try simp only [Act.put, List.setIfInBounds_toArray, List.set_cons_zero, List.set_cons_succ]
      refine wpAnyH_take (i := 5) (oi := { dst := some 60, op := Op.binOp BinOp.geq 3 (Operand.tmp 59) (Operand.const (Value.int IntKind.i64 1)) 3, type := 4, pos := "ref.go:24", after := #[{ on := 4, ground := Ground.data }, { on := 2, ground := Ground.guard }], guard := some (2, true) }) (v := undef) rfl (by kernel_rfl) (by kernel_rfl) (by kernel_rfl) (fun _ _ _ h => h) (Or.inr ⟨by rfl, rfl⟩) hHeld ?_
      try simp only [Act.put, List.setIfInBounds_toArray, List.set_cons_zero, List.set_cons_succ]
      refine wpAnyH_take (i := 6) (oi := { dst := some 61, op := Op.pick (Operand.tmp 57) (Operand.tmp 60) (Operand.const (Value.bool false)), type := 4, pos := "ref.go:24", after := #[{ on := 2, ground := Ground.data }, { on := 5, ground := Ground.data }], guard := none }) (v := .bool false) rfl (by kernel_rfl) (by kernel_rfl) (by kernel_rfl) (fun _ _ _ h => h) (Or.inl ⟨by rfl, ?q32h⟩) hHeld ?q32r
      case q32h => (intro wq hSw; clear hSw; go_simp; try with_reducible rfl)
      try simp only [Act.put, List.setIfInBounds_toArray, List.set_cons_zero, List.set_cons_succ]
      refine wpAnyH_take (i := 7) (oi := { dst := some 62, op := Op.move (Operand.tmp 61), type := 4, pos := "ref.go:24", after := #[{ on := 6, ground := Ground.data }, { on := 2, ground := Ground.chain }], guard := none }) (v := ?q33v) rfl (by kernel_rfl) (by kernel_rfl) (by kernel_rfl) (fun _ _ _ h => h) (Or.inl ⟨by rfl, ?q33h⟩) hHeld ?q33r
      case q33h => (intro wq hSw; clear hSw; go_simp; try with_reducible rfl)
      try simp only [Act.put, List.setIfInBounds_toArray, List.set_cons_zero, List.set_cons_succ]
      refine wpAnyH_take (i := 8) (oi := { dst := some 63, op := Op.fieldAddr 28 (Operand.tmp 1) 2, type := 0, pos := "ref.go:24", after := #[{ on := 7, ground := Ground.guard }, { on := 12, ground := Ground.gcOnly Departure.lateStores }], guard := some (7, true) }) (v := undef) rfl (by kernel_rfl) (by kernel_rfl) (by kernel_rfl) (fun _ _ _ h => h) (Or.inr ⟨by rfl, rfl⟩) hHeld ?_
      try simp only [Act.put, List.setIfInBounds_toArray, List.set_cons_zero, List.set_cons_succ]
      refine wpAnyH_take (i := 9) (oi := { dst := some 64, op := Op.load 3 (Operand.tmp 63), type := 3, pos := "ref.go:24", after := #[{ on := 8, ground := Ground.data }, { on := 7, ground := Ground.guard }, { on := 12, ground := Ground.gcOnly Departure.lateStores }], guard := some (7, true) }) (v := undef) rfl (by kernel_rfl) (by kernel_rfl) (by kernel_rfl) (fun _ _ _ h => h) (Or.inr ⟨by rfl, rfl⟩) hHeld ?_
      try simp only [Act.put, List.setIfInBounds_toArray, List.set_cons_zero, List.set_cons_succ]
      refine wpAnyH_take (i := 10) (oi := { dst := some 65, op := Op.binOp BinOp.leq 3 (Operand.tmp 64) (Operand.const (Value.int IntKind.i64 1073741824)) 3, type := 4, pos := "ref.go:24", after := #[{ on := 9, ground := Ground.data }, { on := 7, ground := Ground.guard }, { on := 12, ground := Ground.gcOnly Departure.lateStores }], guard := some (7, true) }) (v := undef) rfl (by kernel_rfl) (by kernel_rfl) (by kernel_rfl) (fun _ _ _ h => h) (Or.inr ⟨by rfl, rfl⟩) hHeld ?_
      try simp only [Act.put, List.setIfInBounds_toArray, List.set_cons_zero, List.set_cons_succ]
      refine wpAnyH_take (i := 11) (oi := { dst := some 66, op := Op.pick (Operand.tmp 62) (Operand.tmp 65) (Operand.const (Value.bool false)), type := 4, pos := "ref.go:24", after := #[{ on := 7, ground := Ground.data }, { on := 10, ground := Ground.data }, { on := 12, ground := Ground.gcOnly Departure.lateStores }], guard := none }) (v := .bool false) rfl (by kernel_rfl) (by kernel_rfl) (by kernel_rfl) (fun _ _ _ h => h) (Or.inl ⟨by rfl, ?q37h⟩) hHeld ?q37r
      case q37h => (intro wq hSw; clear hSw; go_simp; try with_reducible rfl)
      try simp only [Act.put, List.setIfInBounds_toArray, List.set_cons_zero, List.set_cons_succ]
      refine wpAnyH_ready (rs := [12]) (by kernel_rfl) (by simp) ?_
      refine AllReadyH.cons (o := { dst := none, op := Op.store 28 (Operand.tmp 2) (Operand.tmp 55), type := 0, pos := "ref.go:24", after := #[{ on := 0, ground := Ground.data }, { on := 7, ground := Ground.chain }, { on := 0, ground := Ground.phase }, { on := 1, ground := Ground.textOnly Departure.lateStores }, { on := 2, ground := Ground.textOnly Departure.lateStores }, { on := 3, ground := Ground.textOnly Departure.lateStores }, { on := 4, ground := Ground.textOnly Departure.lateStores }, { on := 5, ground := Ground.textOnly Departure.lateStores }, { on := 6, ground := Ground.textOnly Departure.lateStores }, { on := 7, ground := Ground.textOnly Departure.lateStores }, { on := 8, ground := Ground.textOnly Departure.lateStores }, { on := 9, ground := Ground.textOnly Departure.lateStores }, { on := 10, ground := Ground.textOnly Departure.lateStores }, { on := 11, ground := Ground.textOnly Departure.lateStores }], guard := none }) rfl (fun K hK => ?_) (AllReadyH.nil)
      rw [if_pos (by rfl)]
      refine wp_store_ob 28 (.tmp 2) (.tmp 55) B1 (enCells ⟨l, 2, t, p, g, r, c, emptyS⟩) (enCells enNil) 28 rfl rfl rfl rfl (((HS9.out).drew).get 1 rfl) (info_en) (rfl) ((oneCell_en _)) ?_
      have HS10 : Hid (Hp w [.ob (w.heap.size) 28 (enCells ⟨l, 2, t, p, g, r, c, s⟩), .ob B1 28 (enCells ⟨l, 2, t, p, g, r, c, emptyS⟩), .ob B2 28 (enCells ⟨l, 2, t, p, g, r, c, emptyS⟩)] (w10.drew.setRow B1 (enCells ⟨l, 2, t, p, g, r, c, emptyS⟩).toArray)) := ((HS9.out).drew).row 1 rfl (enCells ⟨l, 2, t, p, g, r, c, emptyS⟩)
      refine hK.out _ _ (HS10.out.pick [0, 2] rfl) (fun hHeld => ?_)
      clear hK K
      generalize (w10.drew.setRow B1 (enCells ⟨l, 2, t, p, g, r, c, emptyS⟩).toArray) = w11 at *
      try simp only [Act.put, List.setIfInBounds_toArray, List.set_cons_zero, List.set_cons_succ]
      refine wpAnyH_take (i := 13) (oi := { dst := some 3, op := Op.assign (Operand.tmp 66), type := 4, pos := "ref.go:24", after := #[{ on := 11, ground := Ground.data }, { on := 12, ground := Ground.chain }, { on := 0, ground := Ground.phase }, { on := 1, ground := Ground.phase }, { on := 2, ground := Ground.phase }, { on := 3, ground := Ground.phase }, { on := 4, ground := Ground.phase }, { on := 5, ground := Ground.phase }, { on := 6, ground := Ground.phase }, { on := 7, ground := Ground.phase }, { on := 8, ground := Ground.phase }, { on := 9, ground := Ground.phase }, { on := 10, ground := Ground.phase }, { on := 11, ground := Ground.phase }, { on := 12, ground := Ground.phase }], guard := none }) (v := ?q38v) rfl (by kernel_rfl) (by kernel_rfl) (by kernel_rfl) (fun _ _ _ h => h) (Or.inl ⟨by rfl, ?q38h⟩) hHeld ?q38r
      case q38h => (intro wq hSw; clear hSw; go_simp; try with_reducible rfl)
      try simp only [Act.put, List.setIfInBounds_toArray, List.set_cons_zero, List.set_cons_succ]
      refine wpAnyH_done (by kernel_rfl) ?_ _
      go_wp2_with fail
      refine bodyPost_ret (results_ob_tmp Try.results32 _ _ B1 (enCells ⟨l, 2, t, p, g, r, c, emptyS⟩) 28 _ rfl ((HS10.out).get 1 rfl) HUE.out rfl info_en) rfl ?_
      exact ShPost.mk rfl (by show (chOkB c && (posB p && (upB r p && isTxB t))) = _; rw [HV.out]; simp [isTxB, posB, upB]; omega) (HS10.out).old
    case pos =>
      by_cases r1 : 1 ≤ r
      case neg =>
        go_upto_region 9 with (first | ((with_reducible refine wpList_store_fld 3 (.tmp 36) (.tmp 35) B2 5 (.int .i64 r) ([.int .i64 r]) (enCells ⟨l, 2, t, p, g, 0, c, emptyS⟩) (enCells ⟨l, 2, t, p, g, r, c, emptyS⟩) 28 ?_ ?_ ?_ ?_ ?_ ?_ ?_ ?_ ?_); (exact rfl); (exact rfl); (exact rfl); (exact (HS8.out).get 2 rfl); (exact (Nat.le_of_ble_eq_true rfl)); (exact info_int1); (exact (one_int _ _)); (exact rfl); skip))
        have HS9 : Hid (Hp w [.ob (w.heap.size) 28 (enCells ⟨l, 2, t, p, g, r, c, s⟩), .ob B1 28 (enCells enNil), .ob B2 28 (enCells ⟨l, 2, t, p, g, r, c, emptyS⟩)] (w9.setRow B2 (enCells ⟨l, 2, t, p, g, r, c, emptyS⟩).toArray)) := (HS8.out).row 2 rfl (enCells ⟨l, 2, t, p, g, r, c, emptyS⟩)
        clear HS8
        generalize (w9.setRow B2 (enCells ⟨l, 2, t, p, g, r, c, emptyS⟩).toArray) = w10 at *
        clear c1 c2 c3 c5
        have c3 : w10.cell? ⟨(w.heap.size), 3, none⟩ = some (.int .i64 p) := (HS9.out).at 0 rfl 3 rfl
        have c5 : w10.cell? ⟨(w.heap.size), 5, none⟩ = some (.int .i64 r) := (HS9.out).at 0 rfl 5 rfl
        go_upto_region 10 with (fail)
        clear c3 c5
        refine wp_region_held_drew (S := fun w' => Hold w.heap.size [.ob (w.heap.size) 28 (enCells ⟨l, 2, t, p, g, r, c, s⟩), .ob B2 28 (enCells ⟨l, 2, t, p, g, r, c, emptyS⟩)] w') (by kernel_rfl) ((HS9.out).drew.pick [0, 2] rfl) (fun hHeld => ?_)
        refine wpAnyH_take (i := 0) (oi := { dst := some 55, op := Op.load 28 (Operand.tmp 4), type := 28, pos := "ref.go:24", after := #[], guard := none }) rfl (by kernel_rfl) (by kernel_rfl) (by kernel_rfl) (fun _ _ _ h => h) (yieldsIf_load_mid (by rfl) 28 (.tmp 4) rfl B2 0 rfl (enCells ⟨l, 2, t, p, g, r, c, emptyS⟩) _ (fun _ h => h.whole 1 rfl) HUE.out rfl (info_en)) hHeld ?_
        try simp only [Act.put, List.setIfInBounds_toArray, List.set_cons_zero, List.set_cons_succ]
        refine wpAnyH_take (i := 1) (oi := { dst := some 56, op := Op.move (Operand.tmp 5), type := 4, pos := "ref.go:24", after := #[], guard := none }) (v := ?q40v) rfl (by kernel_rfl) (by kernel_rfl) (by kernel_rfl) (fun _ _ _ h => h) (Or.inl ⟨by rfl, ?q40h⟩) hHeld ?q40r
        case q40h => (intro wq hSw; clear hSw; go_simp; try with_reducible rfl)
        try simp only [Act.put, List.setIfInBounds_toArray, List.set_cons_zero, List.set_cons_succ]
        refine wpAnyH_take (i := 2) (oi := { dst := some 57, op := Op.move (Operand.tmp 56), type := 4, pos := "ref.go:24", after := #[{ on := 1, ground := Ground.data }], guard := none }) (v := ?q41v) rfl (by kernel_rfl) (by kernel_rfl) (by kernel_rfl) (fun _ _ _ h => h) (Or.inl ⟨by rfl, ?q41h⟩) hHeld ?q41r
        case q41h => (intro wq hSw; clear hSw; go_simp; try with_reducible rfl)
        try simp only [Act.put, List.setIfInBounds_toArray, List.set_cons_zero, List.set_cons_succ]
        refine wpAnyH_take (i := 3) (oi := { dst := some 58, op := Op.fieldAddr 28 (Operand.tmp 1) 2, type := 0, pos := "ref.go:24", after := #[{ on := 2, ground := Ground.guard }], guard := some (2, true) }) (v := undef) rfl (by kernel_rfl) (by kernel_rfl) (by kernel_rfl) (fun _ _ _ h => h) (Or.inr ⟨by rfl, rfl⟩) hHeld ?_
        try simp only [Act.put, List.setIfInBounds_toArray, List.set_cons_zero, List.set_cons_succ]
        refine wpAnyH_take (i := 4) (oi := { dst := some 59, op := Op.load 3 (Operand.tmp 58), type := 3, pos := "ref.go:24", after := #[{ on := 3, ground := Ground.data }, { on := 2, ground := Ground.guard }], guard := some (2, true) }) (v := undef) rfl (by kernel_rfl) (by kernel_rfl) (by kernel_rfl) (fun _ _ _ h => h) (Or.inr ⟨by rfl, rfl⟩) hHeld ?_
        try simp only [Act.put, List.setIfInBounds_toArray, List.set_cons_zero, List.set_cons_succ]
        refine wpAnyH_take (i := 5) (oi := { dst := some 60, op := Op.binOp BinOp.geq 3 (Operand.tmp 59) (Operand.const (Value.int IntKind.i64 1)) 3, type := 4, pos := "ref.go:24", after := #[{ on := 4, ground := Ground.data }, { on := 2, ground := Ground.guard }], guard := some (2, true) }) (v := undef) rfl (by kernel_rfl) (by kernel_rfl) (by kernel_rfl) (fun _ _ _ h => h) (Or.inr ⟨by rfl, rfl⟩) hHeld ?_
        try simp only [Act.put, List.setIfInBounds_toArray, List.set_cons_zero, List.set_cons_succ]
        refine wpAnyH_take (i := 6) (oi := { dst := some 61, op := Op.pick (Operand.tmp 57) (Operand.tmp 60) (Operand.const (Value.bool false)), type := 4, pos := "ref.go:24", after := #[{ on := 2, ground := Ground.data }, { on := 5, ground := Ground.data }], guard := none }) (v := .bool false) rfl (by kernel_rfl) (by kernel_rfl) (by kernel_rfl) (fun _ _ _ h => h) (Or.inl ⟨by rfl, ?q45h⟩) hHeld ?q45r
        case q45h => (intro wq hSw; clear hSw; go_simp; try with_reducible rfl)
        try simp only [Act.put, List.setIfInBounds_toArray, List.set_cons_zero, List.set_cons_succ]
        refine wpAnyH_take (i := 7) (oi := { dst := some 62, op := Op.move (Operand.tmp 61), type := 4, pos := "ref.go:24", after := #[{ on := 6, ground := Ground.data }, { on := 2, ground := Ground.chain }], guard := none }) (v := ?q46v) rfl (by kernel_rfl) (by kernel_rfl) (by kernel_rfl) (fun _ _ _ h => h) (Or.inl ⟨by rfl, ?q46h⟩) hHeld ?q46r
        case q46h => (intro wq hSw; clear hSw; go_simp; try with_reducible rfl)
        try simp only [Act.put, List.setIfInBounds_toArray, List.set_cons_zero, List.set_cons_succ]
        refine wpAnyH_take (i := 8) (oi := { dst := some 63, op := Op.fieldAddr 28 (Operand.tmp 1) 2, type := 0, pos := "ref.go:24", after := #[{ on := 7, ground := Ground.guard }, { on := 12, ground := Ground.gcOnly Departure.lateStores }], guard := some (7, true) }) (v := undef) rfl (by kernel_rfl) (by kernel_rfl) (by kernel_rfl) (fun _ _ _ h => h) (Or.inr ⟨by rfl, rfl⟩) hHeld ?_
        try simp only [Act.put, List.setIfInBounds_toArray, List.set_cons_zero, List.set_cons_succ]
        refine wpAnyH_take (i := 9) (oi := { dst := some 64, op := Op.load 3 (Operand.tmp 63), type := 3, pos := "ref.go:24", after := #[{ on := 8, ground := Ground.data }, { on := 7, ground := Ground.guard }, { on := 12, ground := Ground.gcOnly Departure.lateStores }], guard := some (7, true) }) (v := undef) rfl (by kernel_rfl) (by kernel_rfl) (by kernel_rfl) (fun _ _ _ h => h) (Or.inr ⟨by rfl, rfl⟩) hHeld ?_
        try simp only [Act.put, List.setIfInBounds_toArray, List.set_cons_zero, List.set_cons_succ]
        refine wpAnyH_take (i := 10) (oi := { dst := some 65, op := Op.binOp BinOp.leq 3 (Operand.tmp 64) (Operand.const (Value.int IntKind.i64 1073741824)) 3, type := 4, pos := "ref.go:24", after := #[{ on := 9, ground := Ground.data }, { on := 7, ground := Ground.guard }, { on := 12, ground := Ground.gcOnly Departure.lateStores }], guard := some (7, true) }) (v := undef) rfl (by kernel_rfl) (by kernel_rfl) (by kernel_rfl) (fun _ _ _ h => h) (Or.inr ⟨by rfl, rfl⟩) hHeld ?_
        try simp only [Act.put, List.setIfInBounds_toArray, List.set_cons_zero, List.set_cons_succ]
        refine wpAnyH_take (i := 11) (oi := { dst := some 66, op := Op.pick (Operand.tmp 62) (Operand.tmp 65) (Operand.const (Value.bool false)), type := 4, pos := "ref.go:24", after := #[{ on := 7, ground := Ground.data }, { on := 10, ground := Ground.data }, { on := 12, ground := Ground.gcOnly Departure.lateStores }], guard := none }) (v := .bool false) rfl (by kernel_rfl) (by kernel_rfl) (by kernel_rfl) (fun _ _ _ h => h) (Or.inl ⟨by rfl, ?q50h⟩) hHeld ?q50r
        case q50h => (intro wq hSw; clear hSw; go_simp; try with_reducible rfl)
        try simp only [Act.put, List.setIfInBounds_toArray, List.set_cons_zero, List.set_cons_succ]
        refine wpAnyH_ready (rs := [12]) (by kernel_rfl) (by simp) ?_
        refine AllReadyH.cons (o := { dst := none, op := Op.store 28 (Operand.tmp 2) (Operand.tmp 55), type := 0, pos := "ref.go:24", after := #[{ on := 0, ground := Ground.data }, { on := 7, ground := Ground.chain }, { on := 0, ground := Ground.phase }, { on := 1, ground := Ground.textOnly Departure.lateStores }, { on := 2, ground := Ground.textOnly Departure.lateStores }, { on := 3, ground := Ground.textOnly Departure.lateStores }, { on := 4, ground := Ground.textOnly Departure.lateStores }, { on := 5, ground := Ground.textOnly Departure.lateStores }, { on := 6, ground := Ground.textOnly Departure.lateStores }, { on := 7, ground := Ground.textOnly Departure.lateStores }, { on := 8, ground := Ground.textOnly Departure.lateStores }, { on := 9, ground := Ground.textOnly Departure.lateStores }, { on := 10, ground := Ground.textOnly Departure.lateStores }, { on := 11, ground := Ground.textOnly Departure.lateStores }], guard := none }) rfl (fun K hK => ?_) (AllReadyH.nil)
        rw [if_pos (by rfl)]
        refine wp_store_ob 28 (.tmp 2) (.tmp 55) B1 (enCells ⟨l, 2, t, p, g, r, c, emptyS⟩) (enCells enNil) 28 rfl rfl rfl rfl (((HS9.out).drew).get 1 rfl) (info_en) (rfl) ((oneCell_en _)) ?_
        have HS10 : Hid (Hp w [.ob (w.heap.size) 28 (enCells ⟨l, 2, t, p, g, r, c, s⟩), .ob B1 28 (enCells ⟨l, 2, t, p, g, r, c, emptyS⟩), .ob B2 28 (enCells ⟨l, 2, t, p, g, r, c, emptyS⟩)] (w10.drew.setRow B1 (enCells ⟨l, 2, t, p, g, r, c, emptyS⟩).toArray)) := ((HS9.out).drew).row 1 rfl (enCells ⟨l, 2, t, p, g, r, c, emptyS⟩)
        refine hK.out _ _ (HS10.out.pick [0, 2] rfl) (fun hHeld => ?_)
        clear hK K
        generalize (w10.drew.setRow B1 (enCells ⟨l, 2, t, p, g, r, c, emptyS⟩).toArray) = w11 at *
        try simp only [Act.put, List.setIfInBounds_toArray, List.set_cons_zero, List.set_cons_succ]
        refine wpAnyH_take (i := 13) (oi := { dst := some 3, op := Op.assign (Operand.tmp 66), type := 4, pos := "ref.go:24", after := #[{ on := 11, ground := Ground.data }, { on := 12, ground := Ground.chain }, { on := 0, ground := Ground.phase }, { on := 1, ground := Ground.phase }, { on := 2, ground := Ground.phase }, { on := 3, ground := Ground.phase }, { on := 4, ground := Ground.phase }, { on := 5, ground := Ground.phase }, { on := 6, ground := Ground.phase }, { on := 7, ground := Ground.phase }, { on := 8, ground := Ground.phase }, { on := 9, ground := Ground.phase }, { on := 10, ground := Ground.phase }, { on := 11, ground := Ground.phase }, { on := 12, ground := Ground.phase }], guard := none }) (v := ?q51v) rfl (by kernel_rfl) (by kernel_rfl) (by kernel_rfl) (fun _ _ _ h => h) (Or.inl ⟨by rfl, ?q51h⟩) hHeld ?q51r
        case q51h => (intro wq hSw; clear hSw; go_simp; try with_reducible rfl)
        try simp only [Act.put, List.setIfInBounds_toArray, List.set_cons_zero, List.set_cons_succ]
        refine wpAnyH_done (by kernel_rfl) ?_ _
        go_wp2_with fail
        refine bodyPost_ret (results_ob_tmp Try.results32 _ _ B1 (enCells ⟨l, 2, t, p, g, r, c, emptyS⟩) 28 _ rfl ((HS10.out).get 1 rfl) HUE.out rfl info_en) rfl ?_
        exact ShPost.mk rfl (by show (chOkB c && (posB p && (upB r p && isTxB t))) = _; rw [HV.out]; simp [isTxB, posB, upB]; omega) (HS10.out).old
      case pos =>
        by_cases r2 : r ≤ p
        case neg =>
          have d2 : decide (r ≤ p) = false := by simpa using r2
          go_upto_region 9 with (first | ((with_reducible refine wpList_store_fld 3 (.tmp 36) (.tmp 35) B2 5 (.int .i64 r) ([.int .i64 r]) (enCells ⟨l, 2, t, p, g, 0, c, emptyS⟩) (enCells ⟨l, 2, t, p, g, r, c, emptyS⟩) 28 ?_ ?_ ?_ ?_ ?_ ?_ ?_ ?_ ?_); (exact rfl); (exact rfl); (exact rfl); (exact (HS8.out).get 2 rfl); (exact (Nat.le_of_ble_eq_true rfl)); (exact info_int1); (exact (one_int _ _)); (exact rfl); skip))
          have HS9 : Hid (Hp w [.ob (w.heap.size) 28 (enCells ⟨l, 2, t, p, g, r, c, s⟩), .ob B1 28 (enCells enNil), .ob B2 28 (enCells ⟨l, 2, t, p, g, r, c, emptyS⟩)] (w9.setRow B2 (enCells ⟨l, 2, t, p, g, r, c, emptyS⟩).toArray)) := (HS8.out).row 2 rfl (enCells ⟨l, 2, t, p, g, r, c, emptyS⟩)
          clear HS8
          generalize (w9.setRow B2 (enCells ⟨l, 2, t, p, g, r, c, emptyS⟩).toArray) = w10 at *
          clear c1 c2 c3 c5
          have c3 : w10.cell? ⟨(w.heap.size), 3, none⟩ = some (.int .i64 p) := (HS9.out).at 0 rfl 3 rfl
          have c5 : w10.cell? ⟨(w.heap.size), 5, none⟩ = some (.int .i64 r) := (HS9.out).at 0 rfl 5 rfl
          go_upto_region 10 with (fail)
          clear c3 c5
          refine wp_region_held_drew (S := fun w' => Hold w.heap.size [.ob (w.heap.size) 28 (enCells ⟨l, 2, t, p, g, r, c, s⟩), .ob B2 28 (enCells ⟨l, 2, t, p, g, r, c, emptyS⟩)] w') (by kernel_rfl) ((HS9.out).drew.pick [0, 2] rfl) (fun hHeld => ?_)
          refine wpAnyH_take (i := 0) (oi := { dst := some 55, op := Op.load 28 (Operand.tmp 4), type := 28, pos := "ref.go:24", after := #[], guard := none }) rfl (by kernel_rfl) (by kernel_rfl) (by kernel_rfl) (fun _ _ _ h => h) (yieldsIf_load_mid (by rfl) 28 (.tmp 4) rfl B2 0 rfl (enCells ⟨l, 2, t, p, g, r, c, emptyS⟩) _ (fun _ h => h.whole 1 rfl) HUE.out rfl (info_en)) hHeld ?_
          try simp only [Act.put, List.setIfInBounds_toArray, List.set_cons_zero, List.set_cons_succ]
          refine wpAnyH_take (i := 1) (oi := { dst := some 56, op := Op.move (Operand.tmp 5), type := 4, pos := "ref.go:24", after := #[], guard := none }) (v := ?q53v) rfl (by kernel_rfl) (by kernel_rfl) (by kernel_rfl) (fun _ _ _ h => h) (Or.inl ⟨by rfl, ?q53h⟩) hHeld ?q53r
          case q53h => (intro wq hSw; clear hSw; go_simp; try with_reducible rfl)
          try simp only [Act.put, List.setIfInBounds_toArray, List.set_cons_zero, List.set_cons_succ]
          refine wpAnyH_take (i := 2) (oi := { dst := some 57, op := Op.move (Operand.tmp 56), type := 4, pos := "ref.go:24", after := #[{ on := 1, ground := Ground.data }], guard := none }) (v := ?q54v) rfl (by kernel_rfl) (by kernel_rfl) (by kernel_rfl) (fun _ _ _ h => h) (Or.inl ⟨by rfl, ?q54h⟩) hHeld ?q54r
          case q54h => (intro wq hSw; clear hSw; go_simp; try with_reducible rfl)
          try simp only [Act.put, List.setIfInBounds_toArray, List.set_cons_zero, List.set_cons_succ]
          refine wpAnyH_take (i := 3) (oi := { dst := some 58, op := Op.fieldAddr 28 (Operand.tmp 1) 2, type := 0, pos := "ref.go:24", after := #[{ on := 2, ground := Ground.guard }], guard := some (2, true) }) (v := undef) rfl (by kernel_rfl) (by kernel_rfl) (by kernel_rfl) (fun _ _ _ h => h) (Or.inr ⟨by rfl, rfl⟩) hHeld ?_
          try simp only [Act.put, List.setIfInBounds_toArray, List.set_cons_zero, List.set_cons_succ]
          refine wpAnyH_take (i := 4) (oi := { dst := some 59, op := Op.load 3 (Operand.tmp 58), type := 3, pos := "ref.go:24", after := #[{ on := 3, ground := Ground.data }, { on := 2, ground := Ground.guard }], guard := some (2, true) }) (v := undef) rfl (by kernel_rfl) (by kernel_rfl) (by kernel_rfl) (fun _ _ _ h => h) (Or.inr ⟨by rfl, rfl⟩) hHeld ?_
          try simp only [Act.put, List.setIfInBounds_toArray, List.set_cons_zero, List.set_cons_succ]
          refine wpAnyH_take (i := 5) (oi := { dst := some 60, op := Op.binOp BinOp.geq 3 (Operand.tmp 59) (Operand.const (Value.int IntKind.i64 1)) 3, type := 4, pos := "ref.go:24", after := #[{ on := 4, ground := Ground.data }, { on := 2, ground := Ground.guard }], guard := some (2, true) }) (v := undef) rfl (by kernel_rfl) (by kernel_rfl) (by kernel_rfl) (fun _ _ _ h => h) (Or.inr ⟨by rfl, rfl⟩) hHeld ?_
          try simp only [Act.put, List.setIfInBounds_toArray, List.set_cons_zero, List.set_cons_succ]
          refine wpAnyH_take (i := 6) (oi := { dst := some 61, op := Op.pick (Operand.tmp 57) (Operand.tmp 60) (Operand.const (Value.bool false)), type := 4, pos := "ref.go:24", after := #[{ on := 2, ground := Ground.data }, { on := 5, ground := Ground.data }], guard := none }) (v := .bool false) rfl (by kernel_rfl) (by kernel_rfl) (by kernel_rfl) (fun _ _ _ h => h) (Or.inl ⟨by rfl, ?q58h⟩) hHeld ?q58r
          case q58h => (intro wq hSw; clear hSw; go_simp; try with_reducible rfl)
          try simp only [Act.put, List.setIfInBounds_toArray, List.set_cons_zero, List.set_cons_succ]
          refine wpAnyH_take (i := 7) (oi := { dst := some 62, op := Op.move (Operand.tmp 61), type := 4, pos := "ref.go:24", after := #[{ on := 6, ground := Ground.data }, { on := 2, ground := Ground.chain }], guard := none }) (v := ?q59v) rfl (by kernel_rfl) (by kernel_rfl) (by kernel_rfl) (fun _ _ _ h => h) (Or.inl ⟨by rfl, ?q59h⟩) hHeld ?q59r
          case q59h => (intro wq hSw; clear hSw; go_simp; try with_reducible rfl)
          try simp only [Act.put, List.setIfInBounds_toArray, List.set_cons_zero, List.set_cons_succ]
          refine wpAnyH_take (i := 8) (oi := { dst := some 63, op := Op.fieldAddr 28 (Operand.tmp 1) 2, type := 0, pos := "ref.go:24", after := #[{ on := 7, ground := Ground.guard }, { on := 12, ground := Ground.gcOnly Departure.lateStores }], guard := some (7, true) }) (v := undef) rfl (by kernel_rfl) (by kernel_rfl) (by kernel_rfl) (fun _ _ _ h => h) (Or.inr ⟨by rfl, rfl⟩) hHeld ?_
          try simp only [Act.put, List.setIfInBounds_toArray, List.set_cons_zero, List.set_cons_succ]
          refine wpAnyH_take (i := 9) (oi := { dst := some 64, op := Op.load 3 (Operand.tmp 63), type := 3, pos := "ref.go:24", after := #[{ on := 8, ground := Ground.data }, { on := 7, ground := Ground.guard }, { on := 12, ground := Ground.gcOnly Departure.lateStores }], guard := some (7, true) }) (v := undef) rfl (by kernel_rfl) (by kernel_rfl) (by kernel_rfl) (fun _ _ _ h => h) (Or.inr ⟨by rfl, rfl⟩) hHeld ?_
          try simp only [Act.put, List.setIfInBounds_toArray, List.set_cons_zero, List.set_cons_succ]
          refine wpAnyH_take (i := 10) (oi := { dst := some 65, op := Op.binOp BinOp.leq 3 (Operand.tmp 64) (Operand.const (Value.int IntKind.i64 1073741824)) 3, type := 4, pos := "ref.go:24", after := #[{ on := 9, ground := Ground.data }, { on := 7, ground := Ground.guard }, { on := 12, ground := Ground.gcOnly Departure.lateStores }], guard := some (7, true) }) (v := undef) rfl (by kernel_rfl) (by kernel_rfl) (by kernel_rfl) (fun _ _ _ h => h) (Or.inr ⟨by rfl, rfl⟩) hHeld ?_
          try simp only [Act.put, List.setIfInBounds_toArray, List.set_cons_zero, List.set_cons_succ]
          refine wpAnyH_take (i := 11) (oi := { dst := some 66, op := Op.pick (Operand.tmp 62) (Operand.tmp 65) (Operand.const (Value.bool false)), type := 4, pos := "ref.go:24", after := #[{ on := 7, ground := Ground.data }, { on := 10, ground := Ground.data }, { on := 12, ground := Ground.gcOnly Departure.lateStores }], guard := none }) (v := .bool false) rfl (by kernel_rfl) (by kernel_rfl) (by kernel_rfl) (fun _ _ _ h => h) (Or.inl ⟨by rfl, ?q63h⟩) hHeld ?q63r
          case q63h => (intro wq hSw; clear hSw; go_simp; try with_reducible rfl)
          try simp only [Act.put, List.setIfInBounds_toArray, List.set_cons_zero, List.set_cons_succ]
          refine wpAnyH_ready (rs := [12]) (by kernel_rfl) (by simp) ?_
          refine AllReadyH.cons (o := { dst := none, op := Op.store 28 (Operand.tmp 2) (Operand.tmp 55), type := 0, pos := "ref.go:24", after := #[{ on := 0, ground := Ground.data }, { on := 7, ground := Ground.chain }, { on := 0, ground := Ground.phase }, { on := 1, ground := Ground.textOnly Departure.lateStores }, { on := 2, ground := Ground.textOnly Departure.lateStores }, { on := 3, ground := Ground.textOnly Departure.lateStores }, { on := 4, ground := Ground.textOnly Departure.lateStores }, { on := 5, ground := Ground.textOnly Departure.lateStores }, { on := 6, ground := Ground.textOnly Departure.lateStores }, { on := 7, ground := Ground.textOnly Departure.lateStores }, { on := 8, ground := Ground.textOnly Departure.lateStores }, { on := 9, ground := Ground.textOnly Departure.lateStores }, { on := 10, ground := Ground.textOnly Departure.lateStores }, { on := 11, ground := Ground.textOnly Departure.lateStores }], guard := none }) rfl (fun K hK => ?_) (AllReadyH.nil)
          rw [if_pos (by rfl)]
          refine wp_store_ob 28 (.tmp 2) (.tmp 55) B1 (enCells ⟨l, 2, t, p, g, r, c, emptyS⟩) (enCells enNil) 28 rfl rfl rfl rfl (((HS9.out).drew).get 1 rfl) (info_en) (rfl) ((oneCell_en _)) ?_
          have HS10 : Hid (Hp w [.ob (w.heap.size) 28 (enCells ⟨l, 2, t, p, g, r, c, s⟩), .ob B1 28 (enCells ⟨l, 2, t, p, g, r, c, emptyS⟩), .ob B2 28 (enCells ⟨l, 2, t, p, g, r, c, emptyS⟩)] (w10.drew.setRow B1 (enCells ⟨l, 2, t, p, g, r, c, emptyS⟩).toArray)) := ((HS9.out).drew).row 1 rfl (enCells ⟨l, 2, t, p, g, r, c, emptyS⟩)
          refine hK.out _ _ (HS10.out.pick [0, 2] rfl) (fun hHeld => ?_)
          clear hK K
          generalize (w10.drew.setRow B1 (enCells ⟨l, 2, t, p, g, r, c, emptyS⟩).toArray) = w11 at *
          try simp only [Act.put, List.setIfInBounds_toArray, List.set_cons_zero, List.set_cons_succ]
          refine wpAnyH_take (i := 13) (oi := { dst := some 3, op := Op.assign (Operand.tmp 66), type := 4, pos := "ref.go:24", after := #[{ on := 11, ground := Ground.data }, { on := 12, ground := Ground.chain }, { on := 0, ground := Ground.phase }, { on := 1, ground := Ground.phase }, { on := 2, ground := Ground.phase }, { on := 3, ground := Ground.phase }, { on := 4, ground := Ground.phase }, { on := 5, ground := Ground.phase }, { on := 6, ground := Ground.phase }, { on := 7, ground := Ground.phase }, { on := 8, ground := Ground.phase }, { on := 9, ground := Ground.phase }, { on := 10, ground := Ground.phase }, { on := 11, ground := Ground.phase }, { on := 12, ground := Ground.phase }], guard := none }) (v := ?q64v) rfl (by kernel_rfl) (by kernel_rfl) (by kernel_rfl) (fun _ _ _ h => h) (Or.inl ⟨by rfl, ?q64h⟩) hHeld ?q64r
          case q64h => (intro wq hSw; clear hSw; go_simp; try with_reducible rfl)
          try simp only [Act.put, List.setIfInBounds_toArray, List.set_cons_zero, List.set_cons_succ]
          refine wpAnyH_done (by kernel_rfl) ?_ _
          go_wp2_with fail
          refine bodyPost_ret (results_ob_tmp Try.results32 _ _ B1 (enCells ⟨l, 2, t, p, g, r, c, emptyS⟩) 28 _ rfl ((HS10.out).get 1 rfl) HUE.out rfl info_en) rfl ?_
          exact ShPost.mk rfl (by show (chOkB c && (posB p && (upB r p && isTxB t))) = _; rw [HV.out]; simp [isTxB, posB, upB]; omega) (HS10.out).old
        case pos =>
          have d2 : decide (r ≤ p) = true := by simpa using r2
          by_cases t1 : 1 ≤ t
          case neg =>
            go_upto_region 9 with (first | ((with_reducible refine wpList_store_fld 3 (.tmp 36) (.tmp 35) B2 5 (.int .i64 r) ([.int .i64 r]) (enCells ⟨l, 2, t, p, g, 0, c, emptyS⟩) (enCells ⟨l, 2, t, p, g, r, c, emptyS⟩) 28 ?_ ?_ ?_ ?_ ?_ ?_ ?_ ?_ ?_); (exact rfl); (exact rfl); (exact rfl); (exact (HS8.out).get 2 rfl); (exact (Nat.le_of_ble_eq_true rfl)); (exact info_int1); (exact (one_int _ _)); (exact rfl); skip))
            have HS9 : Hid (Hp w [.ob (w.heap.size) 28 (enCells ⟨l, 2, t, p, g, r, c, s⟩), .ob B1 28 (enCells enNil), .ob B2 28 (enCells ⟨l, 2, t, p, g, r, c, emptyS⟩)] (w9.setRow B2 (enCells ⟨l, 2, t, p, g, r, c, emptyS⟩).toArray)) := (HS8.out).row 2 rfl (enCells ⟨l, 2, t, p, g, r, c, emptyS⟩)
            clear HS8
            generalize (w9.setRow B2 (enCells ⟨l, 2, t, p, g, r, c, emptyS⟩).toArray) = w10 at *
            clear c1 c2 c3 c5
            have c3 : w10.cell? ⟨(w.heap.size), 3, none⟩ = some (.int .i64 p) := (HS9.out).at 0 rfl 3 rfl
            have c5 : w10.cell? ⟨(w.heap.size), 5, none⟩ = some (.int .i64 r) := (HS9.out).at 0 rfl 5 rfl
            go_upto_region 10 with (fail)
            clear c3 c5
            refine wp_region_held_drew (S := fun w' => Hold w.heap.size [.ob (w.heap.size) 28 (enCells ⟨l, 2, t, p, g, r, c, s⟩), .ob B2 28 (enCells ⟨l, 2, t, p, g, r, c, emptyS⟩)] w') (by kernel_rfl) ((HS9.out).drew.pick [0, 2] rfl) (fun hHeld => ?_)
            refine wpAnyH_take (i := 0) (oi := { dst := some 55, op := Op.load 28 (Operand.tmp 4), type := 28, pos := "ref.go:24", after := #[], guard := none }) rfl (by kernel_rfl) (by kernel_rfl) (by kernel_rfl) (fun _ _ _ h => h) (yieldsIf_load_mid (by rfl) 28 (.tmp 4) rfl B2 0 rfl (enCells ⟨l, 2, t, p, g, r, c, emptyS⟩) _ (fun _ h => h.whole 1 rfl) HUE.out rfl (info_en)) hHeld ?_
            try simp only [Act.put, List.setIfInBounds_toArray, List.set_cons_zero, List.set_cons_succ]
            refine wpAnyH_take (i := 1) (oi := { dst := some 56, op := Op.move (Operand.tmp 5), type := 4, pos := "ref.go:24", after := #[], guard := none }) (v := ?q66v) rfl (by kernel_rfl) (by kernel_rfl) (by kernel_rfl) (fun _ _ _ h => h) (Or.inl ⟨by rfl, ?q66h⟩) hHeld ?q66r
            case q66h => (intro wq hSw; clear hSw; go_simp; try with_reducible rfl)
            try simp only [Act.put, List.setIfInBounds_toArray, List.set_cons_zero, List.set_cons_succ]
            refine wpAnyH_take (i := 2) (oi := { dst := some 57, op := Op.move (Operand.tmp 56), type := 4, pos := "ref.go:24", after := #[{ on := 1, ground := Ground.data }], guard := none }) (v := ?q67v) rfl (by kernel_rfl) (by kernel_rfl) (by kernel_rfl) (fun _ _ _ h => h) (Or.inl ⟨by rfl, ?q67h⟩) hHeld ?q67r
            case q67h => (intro wq hSw; clear hSw; go_simp; try with_reducible rfl)
            try simp only [Act.put, List.setIfInBounds_toArray, List.set_cons_zero, List.set_cons_succ]
            refine wpAnyH_take (i := 3) (oi := { dst := some 58, op := Op.fieldAddr 28 (Operand.tmp 1) 2, type := 0, pos := "ref.go:24", after := #[{ on := 2, ground := Ground.guard }], guard := some (2, true) }) (v := ?q68v) rfl (by kernel_rfl) (by kernel_rfl) (by kernel_rfl) (fun _ _ _ h => h) (Or.inl ⟨by rfl, ?q68h⟩) hHeld ?q68r
            case q68h => (intro wq hSw; clear hSw; go_simp; try with_reducible rfl)
            try simp only [Act.put, List.setIfInBounds_toArray, List.set_cons_zero, List.set_cons_succ]
            refine wpAnyH_take (i := 4) (oi := { dst := some 59, op := Op.load 3 (Operand.tmp 58), type := 3, pos := "ref.go:24", after := #[{ on := 3, ground := Ground.data }, { on := 2, ground := Ground.guard }], guard := some (2, true) }) (v := .int .i64 t) rfl (by kernel_rfl) (by kernel_rfl) (by kernel_rfl) (fun _ _ _ h => h) (Or.inl ⟨by rfl, ?q69h⟩) hHeld ?q69r
            case q69h => (intro wq hSw; have lq := hSw.at 0 rfl 2 (v := .int .i64 t) rfl; clear hSw; go_simp; try with_reducible rfl)
            try simp only [Act.put, List.setIfInBounds_toArray, List.set_cons_zero, List.set_cons_succ]
            refine wpAnyH_take (i := 5) (oi := { dst := some 60, op := Op.binOp BinOp.geq 3 (Operand.tmp 59) (Operand.const (Value.int IntKind.i64 1)) 3, type := 4, pos := "ref.go:24", after := #[{ on := 4, ground := Ground.data }, { on := 2, ground := Ground.guard }], guard := some (2, true) }) (v := .bool false) rfl (by kernel_rfl) (by kernel_rfl) (by kernel_rfl) (fun _ _ _ h => h) (Or.inl ⟨by rfl, ?q70h⟩) hHeld ?q70r
            case q70h => (intro wq hSw; clear hSw; go_simp; try with_reducible rfl)
            try simp only [Act.put, List.setIfInBounds_toArray, List.set_cons_zero, List.set_cons_succ]
            refine wpAnyH_take (i := 6) (oi := { dst := some 61, op := Op.pick (Operand.tmp 57) (Operand.tmp 60) (Operand.const (Value.bool false)), type := 4, pos := "ref.go:24", after := #[{ on := 2, ground := Ground.data }, { on := 5, ground := Ground.data }], guard := none }) (v := .bool false) rfl (by kernel_rfl) (by kernel_rfl) (by kernel_rfl) (fun _ _ _ h => h) (Or.inl ⟨by rfl, ?q71h⟩) hHeld ?q71r
            case q71h => (intro wq hSw; clear hSw; go_simp; try with_reducible rfl)
            try simp only [Act.put, List.setIfInBounds_toArray, List.set_cons_zero, List.set_cons_succ]
            refine wpAnyH_take (i := 7) (oi := { dst := some 62, op := Op.move (Operand.tmp 61), type := 4, pos := "ref.go:24", after := #[{ on := 6, ground := Ground.data }, { on := 2, ground := Ground.chain }], guard := none }) (v := ?q72v) rfl (by kernel_rfl) (by kernel_rfl) (by kernel_rfl) (fun _ _ _ h => h) (Or.inl ⟨by rfl, ?q72h⟩) hHeld ?q72r
            case q72h => (intro wq hSw; clear hSw; go_simp; try with_reducible rfl)
            try simp only [Act.put, List.setIfInBounds_toArray, List.set_cons_zero, List.set_cons_succ]
            refine wpAnyH_take (i := 8) (oi := { dst := some 63, op := Op.fieldAddr 28 (Operand.tmp 1) 2, type := 0, pos := "ref.go:24", after := #[{ on := 7, ground := Ground.guard }, { on := 12, ground := Ground.gcOnly Departure.lateStores }], guard := some (7, true) }) (v := undef) rfl (by kernel_rfl) (by kernel_rfl) (by kernel_rfl) (fun _ _ _ h => h) (Or.inr ⟨by rfl, rfl⟩) hHeld ?_
            try simp only [Act.put, List.setIfInBounds_toArray, List.set_cons_zero, List.set_cons_succ]
            refine wpAnyH_take (i := 9) (oi := { dst := some 64, op := Op.load 3 (Operand.tmp 63), type := 3, pos := "ref.go:24", after := #[{ on := 8, ground := Ground.data }, { on := 7, ground := Ground.guard }, { on := 12, ground := Ground.gcOnly Departure.lateStores }], guard := some (7, true) }) (v := undef) rfl (by kernel_rfl) (by kernel_rfl) (by kernel_rfl) (fun _ _ _ h => h) (Or.inr ⟨by rfl, rfl⟩) hHeld ?_
            try simp only [Act.put, List.setIfInBounds_toArray, List.set_cons_zero, List.set_cons_succ]
            refine wpAnyH_take (i := 10) (oi := { dst := some 65, op := Op.binOp BinOp.leq 3 (Operand.tmp 64) (Operand.const (Value.int IntKind.i64 1073741824)) 3, type := 4, pos := "ref.go:24", after := #[{ on := 9, ground := Ground.data }, { on := 7, ground := Ground.guard }, { on := 12, ground := Ground.gcOnly Departure.lateStores }], guard := some (7, true) }) (v := undef) rfl (by kernel_rfl) (by kernel_rfl) (by kernel_rfl) (fun _ _ _ h => h) (Or.inr ⟨by rfl, rfl⟩) hHeld ?_
            try simp only [Act.put, List.setIfInBounds_toArray, List.set_cons_zero, List.set_cons_succ]
            refine wpAnyH_take (i := 11) (oi := { dst := some 66, op := Op.pick (Operand.tmp 62) (Operand.tmp 65) (Operand.const (Value.bool false)), type := 4, pos := "ref.go:24", after := #[{ on := 7, ground := Ground.data }, { on := 10, ground := Ground.data }, { on := 12, ground := Ground.gcOnly Departure.lateStores }], guard := none }) (v := .bool false) rfl (by kernel_rfl) (by kernel_rfl) (by kernel_rfl) (fun _ _ _ h => h) (Or.inl ⟨by rfl, ?q76h⟩) hHeld ?q76r
            case q76h => (intro wq hSw; clear hSw; go_simp; try with_reducible rfl)
            try simp only [Act.put, List.setIfInBounds_toArray, List.set_cons_zero, List.set_cons_succ]
            refine wpAnyH_ready (rs := [12]) (by kernel_rfl) (by simp) ?_
            refine AllReadyH.cons (o := { dst := none, op := Op.store 28 (Operand.tmp 2) (Operand.tmp 55), type := 0, pos := "ref.go:24", after := #[{ on := 0, ground := Ground.data }, { on := 7, ground := Ground.chain }, { on := 0, ground := Ground.phase }, { on := 1, ground := Ground.textOnly Departure.lateStores }, { on := 2, ground := Ground.textOnly Departure.lateStores }, { on := 3, ground := Ground.textOnly Departure.lateStores }, { on := 4, ground := Ground.textOnly Departure.lateStores }, { on := 5, ground := Ground.textOnly Departure.lateStores }, { on := 6, ground := Ground.textOnly Departure.lateStores }, { on := 7, ground := Ground.textOnly Departure.lateStores }, { on := 8, ground := Ground.textOnly Departure.lateStores }, { on := 9, ground := Ground.textOnly Departure.lateStores }, { on := 10, ground := Ground.textOnly Departure.lateStores }, { on := 11, ground := Ground.textOnly Departure.lateStores }], guard := none }) rfl (fun K hK => ?_) (AllReadyH.nil)
            rw [if_pos (by rfl)]
            refine wp_store_ob 28 (.tmp 2) (.tmp 55) B1 (enCells ⟨l, 2, t, p, g, r, c, emptyS⟩) (enCells enNil) 28 rfl rfl rfl rfl (((HS9.out).drew).get 1 rfl) (info_en) (rfl) ((oneCell_en _)) ?_
            have HS10 : Hid (Hp w [.ob (w.heap.size) 28 (enCells ⟨l, 2, t, p, g, r, c, s⟩), .ob B1 28 (enCells ⟨l, 2, t, p, g, r, c, emptyS⟩), .ob B2 28 (enCells ⟨l, 2, t, p, g, r, c, emptyS⟩)] (w10.drew.setRow B1 (enCells ⟨l, 2, t, p, g, r, c, emptyS⟩).toArray)) := ((HS9.out).drew).row 1 rfl (enCells ⟨l, 2, t, p, g, r, c, emptyS⟩)
            refine hK.out _ _ (HS10.out.pick [0, 2] rfl) (fun hHeld => ?_)
            clear hK K
            generalize (w10.drew.setRow B1 (enCells ⟨l, 2, t, p, g, r, c, emptyS⟩).toArray) = w11 at *
            try simp only [Act.put, List.setIfInBounds_toArray, List.set_cons_zero, List.set_cons_succ]
            refine wpAnyH_take (i := 13) (oi := { dst := some 3, op := Op.assign (Operand.tmp 66), type := 4, pos := "ref.go:24", after := #[{ on := 11, ground := Ground.data }, { on := 12, ground := Ground.chain }, { on := 0, ground := Ground.phase }, { on := 1, ground := Ground.phase }, { on := 2, ground := Ground.phase }, { on := 3, ground := Ground.phase }, { on := 4, ground := Ground.phase }, { on := 5, ground := Ground.phase }, { on := 6, ground := Ground.phase }, { on := 7, ground := Ground.phase }, { on := 8, ground := Ground.phase }, { on := 9, ground := Ground.phase }, { on := 10, ground := Ground.phase }, { on := 11, ground := Ground.phase }, { on := 12, ground := Ground.phase }], guard := none }) (v := ?q77v) rfl (by kernel_rfl) (by kernel_rfl) (by kernel_rfl) (fun _ _ _ h => h) (Or.inl ⟨by rfl, ?q77h⟩) hHeld ?q77r
            case q77h => (intro wq hSw; clear hSw; go_simp; try with_reducible rfl)
            try simp only [Act.put, List.setIfInBounds_toArray, List.set_cons_zero, List.set_cons_succ]
            refine wpAnyH_done (by kernel_rfl) ?_ _
            go_wp2_with fail
            refine bodyPost_ret (results_ob_tmp Try.results32 _ _ B1 (enCells ⟨l, 2, t, p, g, r, c, emptyS⟩) 28 _ rfl ((HS10.out).get 1 rfl) HUE.out rfl info_en) rfl ?_
            exact ShPost.mk rfl (by show (chOkB c && (posB p && (upB r p && isTxB t))) = _; rw [HV.out]; simp [isTxB, posB, upB]; omega) (HS10.out).old
          case pos =>
            by_cases t2 : t ≤ 1073741824
            case neg =>
              go_upto_region 9 with (first | ((with_reducible refine wpList_store_fld 3 (.tmp 36) (.tmp 35) B2 5 (.int .i64 r) ([.int .i64 r]) (enCells ⟨l, 2, t, p, g, 0, c, emptyS⟩) (enCells ⟨l, 2, t, p, g, r, c, emptyS⟩) 28 ?_ ?_ ?_ ?_ ?_ ?_ ?_ ?_ ?_); (exact rfl); (exact rfl); (exact rfl); (exact (HS8.out).get 2 rfl); (exact (Nat.le_of_ble_eq_true rfl)); (exact info_int1); (exact (one_int _ _)); (exact rfl); skip))
              have HS9 : Hid (Hp w [.ob (w.heap.size) 28 (enCells ⟨l, 2, t, p, g, r, c, s⟩), .ob B1 28 (enCells enNil), .ob B2 28 (enCells ⟨l, 2, t, p, g, r, c, emptyS⟩)] (w9.setRow B2 (enCells ⟨l, 2, t, p, g, r, c, emptyS⟩).toArray)) := (HS8.out).row 2 rfl (enCells ⟨l, 2, t, p, g, r, c, emptyS⟩)
              clear HS8
              generalize (w9.setRow B2 (enCells ⟨l, 2, t, p, g, r, c, emptyS⟩).toArray) = w10 at *
              clear c1 c2 c3 c5
              have c3 : w10.cell? ⟨(w.heap.size), 3, none⟩ = some (.int .i64 p) := (HS9.out).at 0 rfl 3 rfl
              have c5 : w10.cell? ⟨(w.heap.size), 5, none⟩ = some (.int .i64 r) := (HS9.out).at 0 rfl 5 rfl
              go_upto_region 10 with (fail)
              clear c3 c5
              refine wp_region_held_drew (S := fun w' => Hold w.heap.size [.ob (w.heap.size) 28 (enCells ⟨l, 2, t, p, g, r, c, s⟩), .ob B2 28 (enCells ⟨l, 2, t, p, g, r, c, emptyS⟩)] w') (by kernel_rfl) ((HS9.out).drew.pick [0, 2] rfl) (fun hHeld => ?_)
              refine wpAnyH_take (i := 0) (oi := { dst := some 55, op := Op.load 28 (Operand.tmp 4), type := 28, pos := "ref.go:24", after := #[], guard := none }) rfl (by kernel_rfl) (by kernel_rfl) (by kernel_rfl) (fun _ _ _ h => h) (yieldsIf_load_mid (by rfl) 28 (.tmp 4) rfl B2 0 rfl (enCells ⟨l, 2, t, p, g, r, c, emptyS⟩) _ (fun _ h => h.whole 1 rfl) HUE.out rfl (info_en)) hHeld ?_
              try simp only [Act.put, List.setIfInBounds_toArray, List.set_cons_zero, List.set_cons_succ]
              refine wpAnyH_take (i := 1) (oi := { dst := some 56, op := Op.move (Operand.tmp 5), type := 4, pos := "ref.go:24", after := #[], guard := none }) (v := ?q79v) rfl (by kernel_rfl) (by kernel_rfl) (by kernel_rfl) (fun _ _ _ h => h) (Or.inl ⟨by rfl, ?q79h⟩) hHeld ?q79r
              case q79h => (intro wq hSw; clear hSw; go_simp; try with_reducible rfl)
              try simp only [Act.put, List.setIfInBounds_toArray, List.set_cons_zero, List.set_cons_succ]
              refine wpAnyH_take (i := 2) (oi := { dst := some 57, op := Op.move (Operand.tmp 56), type := 4, pos := "ref.go:24", after := #[{ on := 1, ground := Ground.data }], guard := none }) (v := ?q80v) rfl (by kernel_rfl) (by kernel_rfl) (by kernel_rfl) (fun _ _ _ h => h) (Or.inl ⟨by rfl, ?q80h⟩) hHeld ?q80r
              case q80h => (intro wq hSw; clear hSw; go_simp; try with_reducible rfl)
              try simp only [Act.put, List.setIfInBounds_toArray, List.set_cons_zero, List.set_cons_succ]
              refine wpAnyH_take (i := 3) (oi := { dst := some 58, op := Op.fieldAddr 28 (Operand.tmp 1) 2, type := 0, pos := "ref.go:24", after := #[{ on := 2, ground := Ground.guard }], guard := some (2, true) }) (v := ?q81v) rfl (by kernel_rfl) (by kernel_rfl) (by kernel_rfl) (fun _ _ _ h => h) (Or.inl ⟨by rfl, ?q81h⟩) hHeld ?q81r
              case q81h => (intro wq hSw; clear hSw; go_simp; try with_reducible rfl)
              try simp only [Act.put, List.setIfInBounds_toArray, List.set_cons_zero, List.set_cons_succ]
              refine wpAnyH_take (i := 4) (oi := { dst := some 59, op := Op.load 3 (Operand.tmp 58), type := 3, pos := "ref.go:24", after := #[{ on := 3, ground := Ground.data }, { on := 2, ground := Ground.guard }], guard := some (2, true) }) (v := .int .i64 t) rfl (by kernel_rfl) (by kernel_rfl) (by kernel_rfl) (fun _ _ _ h => h) (Or.inl ⟨by rfl, ?q82h⟩) hHeld ?q82r
              case q82h => (intro wq hSw; have lq := hSw.at 0 rfl 2 (v := .int .i64 t) rfl; clear hSw; go_simp; try with_reducible rfl)
              try simp only [Act.put, List.setIfInBounds_toArray, List.set_cons_zero, List.set_cons_succ]
              refine wpAnyH_take (i := 5) (oi := { dst := some 60, op := Op.binOp BinOp.geq 3 (Operand.tmp 59) (Operand.const (Value.int IntKind.i64 1)) 3, type := 4, pos := "ref.go:24", after := #[{ on := 4, ground := Ground.data }, { on := 2, ground := Ground.guard }], guard := some (2, true) }) (v := .bool true) rfl (by kernel_rfl) (by kernel_rfl) (by kernel_rfl) (fun _ _ _ h => h) (Or.inl ⟨by rfl, ?q83h⟩) hHeld ?q83r
              case q83h => (intro wq hSw; clear hSw; go_simp; try with_reducible rfl)
              try simp only [Act.put, List.setIfInBounds_toArray, List.set_cons_zero, List.set_cons_succ]
              refine wpAnyH_take (i := 6) (oi := { dst := some 61, op := Op.pick (Operand.tmp 57) (Operand.tmp 60) (Operand.const (Value.bool false)), type := 4, pos := "ref.go:24", after := #[{ on := 2, ground := Ground.data }, { on := 5, ground := Ground.data }], guard := none }) (v := .bool true) rfl (by kernel_rfl) (by kernel_rfl) (by kernel_rfl) (fun _ _ _ h => h) (Or.inl ⟨by rfl, ?q84h⟩) hHeld ?q84r
              case q84h => (intro wq hSw; clear hSw; go_simp; try with_reducible rfl)
              try simp only [Act.put, List.setIfInBounds_toArray, List.set_cons_zero, List.set_cons_succ]
              refine wpAnyH_take (i := 7) (oi := { dst := some 62, op := Op.move (Operand.tmp 61), type := 4, pos := "ref.go:24", after := #[{ on := 6, ground := Ground.data }, { on := 2, ground := Ground.chain }], guard := none }) (v := ?q85v) rfl (by kernel_rfl) (by kernel_rfl) (by kernel_rfl) (fun _ _ _ h => h) (Or.inl ⟨by rfl, ?q85h⟩) hHeld ?q85r
              case q85h => (intro wq hSw; clear hSw; go_simp; try with_reducible rfl)
              try simp only [Act.put, List.setIfInBounds_toArray, List.set_cons_zero, List.set_cons_succ]
              refine wpAnyH_take (i := 8) (oi := { dst := some 63, op := Op.fieldAddr 28 (Operand.tmp 1) 2, type := 0, pos := "ref.go:24", after := #[{ on := 7, ground := Ground.guard }, { on := 12, ground := Ground.gcOnly Departure.lateStores }], guard := some (7, true) }) (v := ?q86v) rfl (by kernel_rfl) (by kernel_rfl) (by kernel_rfl) (fun _ _ _ h => h) (Or.inl ⟨by rfl, ?q86h⟩) hHeld ?q86r
              case q86h => (intro wq hSw; clear hSw; go_simp; try with_reducible rfl)
              try simp only [Act.put, List.setIfInBounds_toArray, List.set_cons_zero, List.set_cons_succ]
              refine wpAnyH_take (i := 9) (oi := { dst := some 64, op := Op.load 3 (Operand.tmp 63), type := 3, pos := "ref.go:24", after := #[{ on := 8, ground := Ground.data }, { on := 7, ground := Ground.guard }, { on := 12, ground := Ground.gcOnly Departure.lateStores }], guard := some (7, true) }) (v := .int .i64 t) rfl (by kernel_rfl) (by kernel_rfl) (by kernel_rfl) (fun _ _ _ h => h) (Or.inl ⟨by rfl, ?q87h⟩) hHeld ?q87r
              case q87h => (intro wq hSw; have lq := hSw.at 0 rfl 2 (v := .int .i64 t) rfl; clear hSw; go_simp; try with_reducible rfl)
              try simp only [Act.put, List.setIfInBounds_toArray, List.set_cons_zero, List.set_cons_succ]
              refine wpAnyH_take (i := 10) (oi := { dst := some 65, op := Op.binOp BinOp.leq 3 (Operand.tmp 64) (Operand.const (Value.int IntKind.i64 1073741824)) 3, type := 4, pos := "ref.go:24", after := #[{ on := 9, ground := Ground.data }, { on := 7, ground := Ground.guard }, { on := 12, ground := Ground.gcOnly Departure.lateStores }], guard := some (7, true) }) (v := .bool false) rfl (by kernel_rfl) (by kernel_rfl) (by kernel_rfl) (fun _ _ _ h => h) (Or.inl ⟨by rfl, ?q88h⟩) hHeld ?q88r
              case q88h => (intro wq hSw; clear hSw; go_simp; try with_reducible rfl)
              try simp only [Act.put, List.setIfInBounds_toArray, List.set_cons_zero, List.set_cons_succ]
              refine wpAnyH_take (i := 11) (oi := { dst := some 66, op := Op.pick (Operand.tmp 62) (Operand.tmp 65) (Operand.const (Value.bool false)), type := 4, pos := "ref.go:24", after := #[{ on := 7, ground := Ground.data }, { on := 10, ground := Ground.data }, { on := 12, ground := Ground.gcOnly Departure.lateStores }], guard := none }) (v := .bool false) rfl (by kernel_rfl) (by kernel_rfl) (by kernel_rfl) (fun _ _ _ h => h) (Or.inl ⟨by rfl, ?q89h⟩) hHeld ?q89r
              case q89h => (intro wq hSw; clear hSw; go_simp; try with_reducible rfl)
              try simp only [Act.put, List.setIfInBounds_toArray, List.set_cons_zero, List.set_cons_succ]
              refine wpAnyH_ready (rs := [12]) (by kernel_rfl) (by simp) ?_
              refine AllReadyH.cons (o := { dst := none, op := Op.store 28 (Operand.tmp 2) (Operand.tmp 55), type := 0, pos := "ref.go:24", after := #[{ on := 0, ground := Ground.data }, { on := 7, ground := Ground.chain }, { on := 0, ground := Ground.phase }, { on := 1, ground := Ground.textOnly Departure.lateStores }, { on := 2, ground := Ground.textOnly Departure.lateStores }, { on := 3, ground := Ground.textOnly Departure.lateStores }, { on := 4, ground := Ground.textOnly Departure.lateStores }, { on := 5, ground := Ground.textOnly Departure.lateStores }, { on := 6, ground := Ground.textOnly Departure.lateStores }, { on := 7, ground := Ground.textOnly Departure.lateStores }, { on := 8, ground := Ground.textOnly Departure.lateStores }, { on := 9, ground := Ground.textOnly Departure.lateStores }, { on := 10, ground := Ground.textOnly Departure.lateStores }, { on := 11, ground := Ground.textOnly Departure.lateStores }], guard := none }) rfl (fun K hK => ?_) (AllReadyH.nil)
              rw [if_pos (by rfl)]
              refine wp_store_ob 28 (.tmp 2) (.tmp 55) B1 (enCells ⟨l, 2, t, p, g, r, c, emptyS⟩) (enCells enNil) 28 rfl rfl rfl rfl (((HS9.out).drew).get 1 rfl) (info_en) (rfl) ((oneCell_en _)) ?_
              have HS10 : Hid (Hp w [.ob (w.heap.size) 28 (enCells ⟨l, 2, t, p, g, r, c, s⟩), .ob B1 28 (enCells ⟨l, 2, t, p, g, r, c, emptyS⟩), .ob B2 28 (enCells ⟨l, 2, t, p, g, r, c, emptyS⟩)] (w10.drew.setRow B1 (enCells ⟨l, 2, t, p, g, r, c, emptyS⟩).toArray)) := ((HS9.out).drew).row 1 rfl (enCells ⟨l, 2, t, p, g, r, c, emptyS⟩)
              refine hK.out _ _ (HS10.out.pick [0, 2] rfl) (fun hHeld => ?_)
              clear hK K
              generalize (w10.drew.setRow B1 (enCells ⟨l, 2, t, p, g, r, c, emptyS⟩).toArray) = w11 at *
              try simp only [Act.put, List.setIfInBounds_toArray, List.set_cons_zero, List.set_cons_succ]
              refine wpAnyH_take (i := 13) (oi := { dst := some 3, op := Op.assign (Operand.tmp 66), type := 4, pos := "ref.go:24", after := #[{ on := 11, ground := Ground.data }, { on := 12, ground := Ground.chain }, { on := 0, ground := Ground.phase }, { on := 1, ground := Ground.phase }, { on := 2, ground := Ground.phase }, { on := 3, ground := Ground.phase }, { on := 4, ground := Ground.phase }, { on := 5, ground := Ground.phase }, { on := 6, ground := Ground.phase }, { on := 7, ground := Ground.phase }, { on := 8, ground := Ground.phase }, { on := 9, ground := Ground.phase }, { on := 10, ground := Ground.phase }, { on := 11, ground := Ground.phase }, { on := 12, ground := Ground.phase }], guard := none }) (v := ?q90v) rfl (by kernel_rfl) (by kernel_rfl) (by kernel_rfl) (fun _ _ _ h => h) (Or.inl ⟨by rfl, ?q90h⟩) hHeld ?q90r
              case q90h => (intro wq hSw; clear hSw; go_simp; try with_reducible rfl)
              try simp only [Act.put, List.setIfInBounds_toArray, List.set_cons_zero, List.set_cons_succ]
              refine wpAnyH_done (by kernel_rfl) ?_ _
              go_wp2_with fail
              refine bodyPost_ret (results_ob_tmp Try.results32 _ _ B1 (enCells ⟨l, 2, t, p, g, r, c, emptyS⟩) 28 _ rfl ((HS10.out).get 1 rfl) HUE.out rfl info_en) rfl ?_
              exact ShPost.mk rfl (by show (chOkB c && (posB p && (upB r p && isTxB t))) = _; rw [HV.out]; simp [isTxB, posB, upB]; omega) (HS10.out).old
            case pos =>
              go_upto_region 9 with (first | ((with_reducible refine wpList_store_fld 3 (.tmp 36) (.tmp 35) B2 5 (.int .i64 r) ([.int .i64 r]) (enCells ⟨l, 2, t, p, g, 0, c, emptyS⟩) (enCells ⟨l, 2, t, p, g, r, c, emptyS⟩) 28 ?_ ?_ ?_ ?_ ?_ ?_ ?_ ?_ ?_); (exact rfl); (exact rfl); (exact rfl); (exact (HS8.out).get 2 rfl); (exact (Nat.le_of_ble_eq_true rfl)); (exact info_int1); (exact (one_int _ _)); (exact rfl); skip))
              have HS9 : Hid (Hp w [.ob (w.heap.size) 28 (enCells ⟨l, 2, t, p, g, r, c, s⟩), .ob B1 28 (enCells enNil), .ob B2 28 (enCells ⟨l, 2, t, p, g, r, c, emptyS⟩)] (w9.setRow B2 (enCells ⟨l, 2, t, p, g, r, c, emptyS⟩).toArray)) := (HS8.out).row 2 rfl (enCells ⟨l, 2, t, p, g, r, c, emptyS⟩)
              clear HS8
              generalize (w9.setRow B2 (enCells ⟨l, 2, t, p, g, r, c, emptyS⟩).toArray) = w10 at *
              clear c1 c2 c3 c5
              have c3 : w10.cell? ⟨(w.heap.size), 3, none⟩ = some (.int .i64 p) := (HS9.out).at 0 rfl 3 rfl
              have c5 : w10.cell? ⟨(w.heap.size), 5, none⟩ = some (.int .i64 r) := (HS9.out).at 0 rfl 5 rfl
              go_upto_region 10 with (fail)
              clear c3 c5
              refine wp_region_held_drew (S := fun w' => Hold w.heap.size [.ob (w.heap.size) 28 (enCells ⟨l, 2, t, p, g, r, c, s⟩), .ob B2 28 (enCells ⟨l, 2, t, p, g, r, c, emptyS⟩)] w') (by kernel_rfl) ((HS9.out).drew.pick [0, 2] rfl) (fun hHeld => ?_)
              refine wpAnyH_take (i := 0) (oi := { dst := some 55, op := Op.load 28 (Operand.tmp 4), type := 28, pos := "ref.go:24", after := #[], guard := none }) rfl (by kernel_rfl) (by kernel_rfl) (by kernel_rfl) (fun _ _ _ h => h) (yieldsIf_load_mid (by rfl) 28 (.tmp 4) rfl B2 0 rfl (enCells ⟨l, 2, t, p, g, r, c, emptyS⟩) _ (fun _ h => h.whole 1 rfl) HUE.out rfl (info_en)) hHeld ?_
              try simp only [Act.put, List.setIfInBounds_toArray, List.set_cons_zero, List.set_cons_succ]
              refine wpAnyH_take (i := 1) (oi := { dst := some 56, op := Op.move (Operand.tmp 5), type := 4, pos := "ref.go:24", after := #[], guard := none }) (v := ?q92v) rfl (by kernel_rfl) (by kernel_rfl) (by kernel_rfl) (fun _ _ _ h => h) (Or.inl ⟨by rfl, ?q92h⟩) hHeld ?q92r
              case q92h => (intro wq hSw; clear hSw; go_simp; try with_reducible rfl)
              try simp only [Act.put, List.setIfInBounds_toArray, List.set_cons_zero, List.set_cons_succ]
              refine wpAnyH_take (i := 2) (oi := { dst := some 57, op := Op.move (Operand.tmp 56), type := 4, pos := "ref.go:24", after := #[{ on := 1, ground := Ground.data }], guard := none }) (v := ?q93v) rfl (by kernel_rfl) (by kernel_rfl) (by kernel_rfl) (fun _ _ _ h => h) (Or.inl ⟨by rfl, ?q93h⟩) hHeld ?q93r
              case q93h => (intro wq hSw; clear hSw; go_simp; try with_reducible rfl)
              try simp only [Act.put, List.setIfInBounds_toArray, List.set_cons_zero, List.set_cons_succ]
              refine wpAnyH_take (i := 3) (oi := { dst := some 58, op := Op.fieldAddr 28 (Operand.tmp 1) 2, type := 0, pos := "ref.go:24", after := #[{ on := 2, ground := Ground.guard }], guard := some (2, true) }) (v := ?q94v) rfl (by kernel_rfl) (by kernel_rfl) (by kernel_rfl) (fun _ _ _ h => h) (Or.inl ⟨by rfl, ?q94h⟩) hHeld ?q94r
              case q94h => (intro wq hSw; clear hSw; go_simp; try with_reducible rfl)
              try simp only [Act.put, List.setIfInBounds_toArray, List.set_cons_zero, List.set_cons_succ]
              refine wpAnyH_take (i := 4) (oi := { dst := some 59, op := Op.load 3 (Operand.tmp 58), type := 3, pos := "ref.go:24", after := #[{ on := 3, ground := Ground.data }, { on := 2, ground := Ground.guard }], guard := some (2, true) }) (v := .int .i64 t) rfl (by kernel_rfl) (by kernel_rfl) (by kernel_rfl) (fun _ _ _ h => h) (Or.inl ⟨by rfl, ?q95h⟩) hHeld ?q95r
              case q95h => (intro wq hSw; have lq := hSw.at 0 rfl 2 (v := .int .i64 t) rfl; clear hSw; go_simp; try with_reducible rfl)
              try simp only [Act.put, List.setIfInBounds_toArray, List.set_cons_zero, List.set_cons_succ]
              refine wpAnyH_take (i := 5) (oi := { dst := some 60, op := Op.binOp BinOp.geq 3 (Operand.tmp 59) (Operand.const (Value.int IntKind.i64 1)) 3, type := 4, pos := "ref.go:24", after := #[{ on := 4, ground := Ground.data }, { on := 2, ground := Ground.guard }], guard := some (2, true) }) (v := .bool true) rfl (by kernel_rfl) (by kernel_rfl) (by kernel_rfl) (fun _ _ _ h => h) (Or.inl ⟨by rfl, ?q96h⟩) hHeld ?q96r
              case q96h => (intro wq hSw; clear hSw; go_simp; try with_reducible rfl)
              try simp only [Act.put, List.setIfInBounds_toArray, List.set_cons_zero, List.set_cons_succ]
              refine wpAnyH_take (i := 6) (oi := { dst := some 61, op := Op.pick (Operand.tmp 57) (Operand.tmp 60) (Operand.const (Value.bool false)), type := 4, pos := "ref.go:24", after := #[{ on := 2, ground := Ground.data }, { on := 5, ground := Ground.data }], guard := none }) (v := .bool true) rfl (by kernel_rfl) (by kernel_rfl) (by kernel_rfl) (fun _ _ _ h => h) (Or.inl ⟨by rfl, ?q97h⟩) hHeld ?q97r
              case q97h => (intro wq hSw; clear hSw; go_simp; try with_reducible rfl)
              try simp only [Act.put, List.setIfInBounds_toArray, List.set_cons_zero, List.set_cons_succ]
              refine wpAnyH_take (i := 7) (oi := { dst := some 62, op := Op.move (Operand.tmp 61), type := 4, pos := "ref.go:24", after := #[{ on := 6, ground := Ground.data }, { on := 2, ground := Ground.chain }], guard := none }) (v := ?q98v) rfl (by kernel_rfl) (by kernel_rfl) (by kernel_rfl) (fun _ _ _ h => h) (Or.inl ⟨by rfl, ?q98h⟩) hHeld ?q98r
              case q98h => (intro wq hSw; clear hSw; go_simp; try with_reducible rfl)
              try simp only [Act.put, List.setIfInBounds_toArray, List.set_cons_zero, List.set_cons_succ]
              refine wpAnyH_take (i := 8) (oi := { dst := some 63, op := Op.fieldAddr 28 (Operand.tmp 1) 2, type := 0, pos := "ref.go:24", after := #[{ on := 7, ground := Ground.guard }, { on := 12, ground := Ground.gcOnly Departure.lateStores }], guard := some (7, true) }) (v := ?q99v) rfl (by kernel_rfl) (by kernel_rfl) (by kernel_rfl) (fun _ _ _ h => h) (Or.inl ⟨by rfl, ?q99h⟩) hHeld ?q99r
              case q99h => (intro wq hSw; clear hSw; go_simp; try with_reducible rfl)
              try simp only [Act.put, List.setIfInBounds_toArray, List.set_cons_zero, List.set_cons_succ]
              refine wpAnyH_take (i := 9) (oi := { dst := some 64, op := Op.load 3 (Operand.tmp 63), type := 3, pos := "ref.go:24", after := #[{ on := 8, ground := Ground.data }, { on := 7, ground := Ground.guard }, { on := 12, ground := Ground.gcOnly Departure.lateStores }], guard := some (7, true) }) (v := .int .i64 t) rfl (by kernel_rfl) (by kernel_rfl) (by kernel_rfl) (fun _ _ _ h => h) (Or.inl ⟨by rfl, ?q100h⟩) hHeld ?q100r
              case q100h => (intro wq hSw; have lq := hSw.at 0 rfl 2 (v := .int .i64 t) rfl; clear hSw; go_simp; try with_reducible rfl)
              try simp only [Act.put, List.setIfInBounds_toArray, List.set_cons_zero, List.set_cons_succ]
              refine wpAnyH_take (i := 10) (oi := { dst := some 65, op := Op.binOp BinOp.leq 3 (Operand.tmp 64) (Operand.const (Value.int IntKind.i64 1073741824)) 3, type := 4, pos := "ref.go:24", after := #[{ on := 9, ground := Ground.data }, { on := 7, ground := Ground.guard }, { on := 12, ground := Ground.gcOnly Departure.lateStores }], guard := some (7, true) }) (v := .bool true) rfl (by kernel_rfl) (by kernel_rfl) (by kernel_rfl) (fun _ _ _ h => h) (Or.inl ⟨by rfl, ?q101h⟩) hHeld ?q101r
              case q101h => (intro wq hSw; clear hSw; go_simp; try with_reducible rfl)
              try simp only [Act.put, List.setIfInBounds_toArray, List.set_cons_zero, List.set_cons_succ]
              refine wpAnyH_take (i := 11) (oi := { dst := some 66, op := Op.pick (Operand.tmp 62) (Operand.tmp 65) (Operand.const (Value.bool false)), type := 4, pos := "ref.go:24", after := #[{ on := 7, ground := Ground.data }, { on := 10, ground := Ground.data }, { on := 12, ground := Ground.gcOnly Departure.lateStores }], guard := none }) (v := .bool true) rfl (by kernel_rfl) (by kernel_rfl) (by kernel_rfl) (fun _ _ _ h => h) (Or.inl ⟨by rfl, ?q102h⟩) hHeld ?q102r
              case q102h => (intro wq hSw; clear hSw; go_simp; try with_reducible rfl)
              try simp only [Act.put, List.setIfInBounds_toArray, List.set_cons_zero, List.set_cons_succ]
              refine wpAnyH_ready (rs := [12]) (by kernel_rfl) (by simp) ?_
              refine AllReadyH.cons (o := { dst := none, op := Op.store 28 (Operand.tmp 2) (Operand.tmp 55), type := 0, pos := "ref.go:24", after := #[{ on := 0, ground := Ground.data }, { on := 7, ground := Ground.chain }, { on := 0, ground := Ground.phase }, { on := 1, ground := Ground.textOnly Departure.lateStores }, { on := 2, ground := Ground.textOnly Departure.lateStores }, { on := 3, ground := Ground.textOnly Departure.lateStores }, { on := 4, ground := Ground.textOnly Departure.lateStores }, { on := 5, ground := Ground.textOnly Departure.lateStores }, { on := 6, ground := Ground.textOnly Departure.lateStores }, { on := 7, ground := Ground.textOnly Departure.lateStores }, { on := 8, ground := Ground.textOnly Departure.lateStores }, { on := 9, ground := Ground.textOnly Departure.lateStores }, { on := 10, ground := Ground.textOnly Departure.lateStores }, { on := 11, ground := Ground.textOnly Departure.lateStores }], guard := none }) rfl (fun K hK => ?_) (AllReadyH.nil)
              rw [if_pos (by rfl)]
              refine wp_store_ob 28 (.tmp 2) (.tmp 55) B1 (enCells ⟨l, 2, t, p, g, r, c, emptyS⟩) (enCells enNil) 28 rfl rfl rfl rfl (((HS9.out).drew).get 1 rfl) (info_en) (rfl) ((oneCell_en _)) ?_
              have HS10 : Hid (Hp w [.ob (w.heap.size) 28 (enCells ⟨l, 2, t, p, g, r, c, s⟩), .ob B1 28 (enCells ⟨l, 2, t, p, g, r, c, emptyS⟩), .ob B2 28 (enCells ⟨l, 2, t, p, g, r, c, emptyS⟩)] (w10.drew.setRow B1 (enCells ⟨l, 2, t, p, g, r, c, emptyS⟩).toArray)) := ((HS9.out).drew).row 1 rfl (enCells ⟨l, 2, t, p, g, r, c, emptyS⟩)
              refine hK.out _ _ (HS10.out.pick [0, 2] rfl) (fun hHeld => ?_)
              clear hK K
              generalize (w10.drew.setRow B1 (enCells ⟨l, 2, t, p, g, r, c, emptyS⟩).toArray) = w11 at *
              try simp only [Act.put, List.setIfInBounds_toArray, List.set_cons_zero, List.set_cons_succ]
              refine wpAnyH_take (i := 13) (oi := { dst := some 3, op := Op.assign (Operand.tmp 66), type := 4, pos := "ref.go:24", after := #[{ on := 11, ground := Ground.data }, { on := 12, ground := Ground.chain }, { on := 0, ground := Ground.phase }, { on := 1, ground := Ground.phase }, { on := 2, ground := Ground.phase }, { on := 3, ground := Ground.phase }, { on := 4, ground := Ground.phase }, { on := 5, ground := Ground.phase }, { on := 6, ground := Ground.phase }, { on := 7, ground := Ground.phase }, { on := 8, ground := Ground.phase }, { on := 9, ground := Ground.phase }, { on := 10, ground := Ground.phase }, { on := 11, ground := Ground.phase }, { on := 12, ground := Ground.phase }], guard := none }) (v := ?q103v) rfl (by kernel_rfl) (by kernel_rfl) (by kernel_rfl) (fun _ _ _ h => h) (Or.inl ⟨by rfl, ?q103h⟩) hHeld ?q103r
              case q103h => (intro wq hSw; clear hSw; go_simp; try with_reducible rfl)
              try simp only [Act.put, List.setIfInBounds_toArray, List.set_cons_zero, List.set_cons_succ]
              refine wpAnyH_done (by kernel_rfl) ?_ _
              go_wp2_with fail
              refine bodyPost_ret (results_ob_tmp Try.results32 _ _ B1 (enCells ⟨l, 2, t, p, g, r, c, emptyS⟩) 28 _ rfl ((HS10.out).get 1 rfl) HUE.out rfl info_en) rfl ?_
              exact ShPost.mk rfl (by show (chOkB c && (posB p && (upB r p && isTxB t))) = _; rw [HV.out]; simp [isTxB, posB, upB]; omega) (HS10.out).old
end Go.Proofs.Ytgljhfofikjbdaa
