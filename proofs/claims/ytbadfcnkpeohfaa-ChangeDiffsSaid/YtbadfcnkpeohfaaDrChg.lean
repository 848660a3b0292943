/- the choices of the drawing package: Change, OddChange -/
import Derived.Test.YtbadfcnkpeohfaaChVal
namespace Go.Proofs.Ytbadfcnkpeohfaa
open Go.RowKit

/-- a change that is drawn -/
structure DrawnCh (c : Chg) : Prop where
  page0 : 0 ≤ c.page
  page1 : c.page < 4
  slot0 : 0 ≤ c.slot
  slot1 : c.slot < 3
  before : cellOkB c.before = true
  after : cellOkB c.after = true
theorem DrawnCh.good {c : Chg} (h : DrawnCh c) : GoodCh c := ⟨wf_of (by have := h.page0; omega) (by have := h.page1; omega), wf_of (by have := h.slot0; omega) (by have := h.slot1; omega), small_le (by have := cellOk_small h.before; omega), small_le (by have := cellOk_small h.after; omega)⟩
set_option maxHeartbeats 1000000 in
theorem change_any (C : Nat) (w : World) (h : CodesOk w C) :
    Calls Try.prog 11 #[.pointer (some ⟨C, 0, none⟩)] w fun e w' => ∃ c : Chg, e = .returned (.agg (chCells c).toArray) ∧ DrawnCh c ∧ Besides C w w' ∧ CodesOk w' C := by
  obtain ⟨fs, hu⟩ := under_ch
  have HU := Lib.hid hu
  clear hu
  have h1 := (Dr.start h).put 29 (chCells chNil)
  simp only [List.nil_append] at h1
  have HD := Lib.hid h1
  clear h1 h
  go_enter Try.func11, Try.ntmps11
  go_wp2_with fail
  refine (next_any C 4 _ HD.out.codes (by omega)).mono ?_
  rintro e w2 ⟨p, rfl, p0, p1, hb2, hc2⟩
  have HD2 := Lib.hid (HD.out.draws hb2 hc2)
  have HP : Hid (0 ≤ p ∧ p < 4) := ⟨p0, by omega⟩
  clear hb2 hc2 p0 p1
  go_wp2_with fail
  refine (next_any C 3 _ HD2.out.codes (by omega)).mono ?_
  rintro e w3 ⟨s, rfl, s0, s1, hb2, hc2⟩
  have HD3 := Lib.hid (HD2.out.draws hb2 hc2)
  have HS : Hid (0 ≤ s ∧ s < 3) := ⟨s0, by omega⟩
  clear hb2 hc2 s0 s1
  go_wp2_with fail
  refine (cell_any C _ HD3.out.codes).mono ?_
  rintro e w4 ⟨x, rfl, hx, hb2, hc2⟩
  have HD4 := Lib.hid (HD3.out.draws hb2 hc2)
  have HX := Lib.hid hx
  clear hb2 hc2 hx
  go_wp2_with fail
  refine (cell_any C _ HD4.out.codes).mono ?_
  rintro e w5 ⟨y, rfl, hy, hb2, hc2⟩
  have HD5 := Lib.hid (HD4.out.draws hb2 hc2)
  have HY := Lib.hid hy
  clear hb2 hc2 hy HD HD2 HD3 HD4
  have HBu : Hid (∀ W, Sem.run Try.prog (Instr.build 29 #[(0, .int .i64 p), (1, .int .i64 s), (2, clV x), (3, clV y)]) W = .ok (.agg (chCells ⟨p, s, x, y⟩).toArray) W) := fun W => by kernel_rfl
  go_wp2_with (first | ((with_reducible refine wpList_build_v 29 (.agg (chCells ⟨p, s, x, y⟩).toArray) ?_ ?_); (intro W; simp only [List.map_toArray, List.map_cons, List.map_nil]; exact HBu.out W); simp only [Act.put, List.setIfInBounds_toArray, List.set_cons_zero, List.set_cons_succ]) | ((with_reducible refine wpList_store_ob 29 (.tmp 2) w.heap.size (chCells ⟨p, s, x, y⟩) (chCells chNil) 29 ?_ ?_ ?_ ?_ ?_ ?_ ?_); (exact rfl); (exact rfl); (exact HD5.out.get 0 rfl); (exact info_ch); (exact rfl); (exact (oneCell_ch _)); skip))
  refine bodyPost_ret (results_ob Try.results11 _ _ w.heap.size (chCells ⟨p, s, x, y⟩) 29 _ rfl ((HD5.out.row 0 rfl (chCells ⟨p, s, x, y⟩)).get 0 rfl) HU.out rfl info_ch) rfl ?_
  exact ⟨⟨p, s, x, y⟩, rfl, ⟨HP.out.1, HP.out.2, HS.out.1, HS.out.2, HX.out, HY.out⟩, (HD5.out.row 0 rfl (chCells ⟨p, s, x, y⟩)).bes, (HD5.out.row 0 rfl (chCells ⟨p, s, x, y⟩)).codes⟩
set_option maxHeartbeats 1000000 in
theorem oddChange_any (C : Nat) (c : Chg) (w : World) (h : CodesOk w C) (hg : GoodCh c) :
    Calls Try.prog 12 #[.pointer (some ⟨C, 0, none⟩), .agg (chCells c).toArray] w fun e w' => ∃ c' : Chg, e = .returned (.agg (chCells c').toArray) ∧ GoodCh c' ∧ Besides C w w' ∧ CodesOk w' C := by
  obtain ⟨fs, hu⟩ := under_ch
  have HU := Lib.hid hu
  clear hu
  have HG := Lib.hid hg
  have h1 := ((Dr.start h).put 29 (chCells c)).put 29 (chCells chNil)
  simp only [List.nil_append, List.cons_append, World.size_alloc] at h1
  have HD := Lib.hid h1
  clear h1 h hg
  go_enter Try.func12, Try.ntmps12
  go_wp2_with fail
  refine (next_any C 4 _ HD.out.codes (by omega)).mono ?_
  rintro e w2 ⟨n, rfl, n0, n1, hb2, hc2⟩
  have HD2 := Lib.hid (HD.out.draws hb2 hc2)
  clear hb2 hc2 HD
  have n4 : n = 0 ∨ n = 1 ∨ n = 2 ∨ n = 3 := by omega
  clear n0 n1
  rcases n4 with rfl | rfl | rfl | rfl
  · go_wp2_with fail
    refine (int_any C _ HD2.out.codes).mono ?_
    rintro e w3 ⟨x, rfl, x0, x1, hb2, hc2⟩
    have HD3 := Lib.hid (HD2.out.draws hb2 hc2)
    have HX : Hid (-9223372036854775808 ≤ x ∧ x ≤ 9223372036854775807) := ⟨x0, x1⟩
    have a0 : w3.cell? ⟨w.heap.size, 0, none⟩ = some (.int .i64 c.page) := (HD3.out.at 0 rfl).at 0 rfl
    have f0 : w3.frozen? ⟨w.heap.size, 0, none⟩ = false := (HD3.out.at 0 rfl).frozen 0
    clear hb2 hc2 x0 x1 HD2
    have HD4 : Hid (Dr w C [⟨w.heap.size, 29, chCells ⟨x, c.slot, c.before, c.after⟩⟩, ⟨w.heap.size + 1, 29, chCells chNil⟩] (w3.setCell ⟨w.heap.size, 0, none⟩ (.int .i64 x))) := HD3.out.set 0 rfl 0 (.int .i64 x)
    go_wp2_with (first | ((with_reducible refine wpList_load_ob 29 (.tmp 3) w.heap.size (chCells ⟨x, c.slot, c.before, c.after⟩) 29 HU.out ?_ ?_ ?_ ?_ ?_); (exact rfl); (exact HD4.out.get 0 rfl); (exact rfl); (exact info_ch); simp only [Act.put, List.setIfInBounds_toArray, List.set_cons_zero, List.set_cons_succ]) | ((with_reducible refine wpList_store_ob 29 (.tmp 4) (w.heap.size + 1) (chCells ⟨x, c.slot, c.before, c.after⟩) (chCells chNil) 29 ?_ ?_ ?_ ?_ ?_ ?_ ?_); (exact rfl); (exact rfl); (exact HD4.out.get 1 rfl); (exact info_ch); (exact rfl); (exact (oneCell_ch _)); skip))
    refine bodyPost_ret (results_ob Try.results12 _ _ (w.heap.size + 1) (chCells ⟨x, c.slot, c.before, c.after⟩) 29 _ rfl ((HD4.out.row 1 rfl (chCells ⟨x, c.slot, c.before, c.after⟩)).get 1 rfl) HU.out rfl info_ch) rfl ?_
    exact ⟨⟨x, c.slot, c.before, c.after⟩, rfl, ⟨wf_of HX.out.1 HX.out.2, HG.out.slot, HG.out.before, HG.out.after⟩, (HD4.out.row 1 rfl (chCells ⟨x, c.slot, c.before, c.after⟩)).bes, (HD4.out.row 1 rfl (chCells ⟨x, c.slot, c.before, c.after⟩)).codes⟩
  · go_wp2_with fail
    refine (int_any C _ HD2.out.codes).mono ?_
    rintro e w3 ⟨x, rfl, x0, x1, hb2, hc2⟩
    have HD3 := Lib.hid (HD2.out.draws hb2 hc2)
    have HX : Hid (-9223372036854775808 ≤ x ∧ x ≤ 9223372036854775807) := ⟨x0, x1⟩
    have a0 : w3.cell? ⟨w.heap.size, 1, none⟩ = some (.int .i64 c.slot) := (HD3.out.at 0 rfl).at 1 rfl
    have f0 : w3.frozen? ⟨w.heap.size, 1, none⟩ = false := (HD3.out.at 0 rfl).frozen 1
    clear hb2 hc2 x0 x1 HD2
    have HD4 : Hid (Dr w C [⟨w.heap.size, 29, chCells ⟨c.page, x, c.before, c.after⟩⟩, ⟨w.heap.size + 1, 29, chCells chNil⟩] (w3.setCell ⟨w.heap.size, 1, none⟩ (.int .i64 x))) := HD3.out.set 0 rfl 1 (.int .i64 x)
    go_wp2_with (first | ((with_reducible refine wpList_load_ob 29 (.tmp 3) w.heap.size (chCells ⟨c.page, x, c.before, c.after⟩) 29 HU.out ?_ ?_ ?_ ?_ ?_); (exact rfl); (exact HD4.out.get 0 rfl); (exact rfl); (exact info_ch); simp only [Act.put, List.setIfInBounds_toArray, List.set_cons_zero, List.set_cons_succ]) | ((with_reducible refine wpList_store_ob 29 (.tmp 4) (w.heap.size + 1) (chCells ⟨c.page, x, c.before, c.after⟩) (chCells chNil) 29 ?_ ?_ ?_ ?_ ?_ ?_ ?_); (exact rfl); (exact rfl); (exact HD4.out.get 1 rfl); (exact info_ch); (exact rfl); (exact (oneCell_ch _)); skip))
    refine bodyPost_ret (results_ob Try.results12 _ _ (w.heap.size + 1) (chCells ⟨c.page, x, c.before, c.after⟩) 29 _ rfl ((HD4.out.row 1 rfl (chCells ⟨c.page, x, c.before, c.after⟩)).get 1 rfl) HU.out rfl info_ch) rfl ?_
    exact ⟨⟨c.page, x, c.before, c.after⟩, rfl, ⟨HG.out.page, wf_of HX.out.1 HX.out.2, HG.out.before, HG.out.after⟩, (HD4.out.row 1 rfl (chCells ⟨c.page, x, c.before, c.after⟩)).bes, (HD4.out.row 1 rfl (chCells ⟨c.page, x, c.before, c.after⟩)).codes⟩
  · go_wp2_with fail
    refine (next_any C 2 _ HD2.out.codes (by omega)).mono ?_
    rintro e w3 ⟨x, rfl, x0, x1, hb2, hc2⟩
    have HD3 := Lib.hid (HD2.out.draws hb2 hc2)
    clear hb2 hc2 x0 x1 HD2
    go_wp2_with fail
    refine (data_any C _ HD3.out.codes).mono ?_
    rintro e w4 ⟨d, rfl, hd, hb2, hc2⟩
    have HD4 := Lib.hid (HD3.out.draws hb2 hc2)
    have HS : Hid (d.size ≤ maxLen) := small_le hd
    clear hb2 hc2 hd HD3
    generalize (x == 1) = st
    have a0 : w4.cell? ⟨w.heap.size, 2, none⟩ = some (.bool c.before.set) := (HD4.out.at 0 rfl).at 2 rfl
    have a1 : w4.cell? ⟨w.heap.size, 3, none⟩ = some (.string c.before.data) := (HD4.out.at 0 rfl).at 3 rfl
    have f0 : w4.frozen? ⟨w.heap.size, 2, none⟩ = false := (HD4.out.at 0 rfl).frozen 2
    have f1 : w4.frozen? ⟨w.heap.size, 3, none⟩ = false := (HD4.out.at 0 rfl).frozen 3
    have HD5 : Hid (Dr w C [⟨w.heap.size, 29, chCells ⟨c.page, c.slot, ⟨st, d⟩, c.after⟩⟩, ⟨w.heap.size + 1, 29, chCells chNil⟩] ((w4.setCell ⟨w.heap.size, 2, none⟩ (.bool st)).setCell ⟨w.heap.size, 3, none⟩ (.string d))) := (HD4.out.set 0 rfl 2 (.bool st)).set 0 rfl 3 (.string d)
    go_wp2_with (first | ((with_reducible refine wpList_load_ob 29 (.tmp 3) w.heap.size (chCells ⟨c.page, c.slot, ⟨st, d⟩, c.after⟩) 29 HU.out ?_ ?_ ?_ ?_ ?_); (exact rfl); (exact HD5.out.get 0 rfl); (exact rfl); (exact info_ch); simp only [Act.put, List.setIfInBounds_toArray, List.set_cons_zero, List.set_cons_succ]) | ((with_reducible refine wpList_store_ob 29 (.tmp 4) (w.heap.size + 1) (chCells ⟨c.page, c.slot, ⟨st, d⟩, c.after⟩) (chCells chNil) 29 ?_ ?_ ?_ ?_ ?_ ?_ ?_); (exact rfl); (exact rfl); (exact HD5.out.get 1 rfl); (exact info_ch); (exact rfl); (exact (oneCell_ch _)); skip))
    refine bodyPost_ret (results_ob Try.results12 _ _ (w.heap.size + 1) (chCells ⟨c.page, c.slot, ⟨st, d⟩, c.after⟩) 29 _ rfl ((HD5.out.row 1 rfl (chCells ⟨c.page, c.slot, ⟨st, d⟩, c.after⟩)).get 1 rfl) HU.out rfl info_ch) rfl ?_
    exact ⟨⟨c.page, c.slot, ⟨st, d⟩, c.after⟩, rfl, ⟨HG.out.page, HG.out.slot, HS.out, HG.out.after⟩, (HD5.out.row 1 rfl (chCells ⟨c.page, c.slot, ⟨st, d⟩, c.after⟩)).bes, (HD5.out.row 1 rfl (chCells ⟨c.page, c.slot, ⟨st, d⟩, c.after⟩)).codes⟩
  · go_wp2_with fail
    refine (next_any C 2 _ HD2.out.codes (by omega)).mono ?_
    rintro e w3 ⟨x, rfl, x0, x1, hb2, hc2⟩
    have HD3 := Lib.hid (HD2.out.draws hb2 hc2)
    clear hb2 hc2 x0 x1 HD2
    go_wp2_with fail
    refine (data_any C _ HD3.out.codes).mono ?_
    rintro e w4 ⟨d, rfl, hd, hb2, hc2⟩
    have HD4 := Lib.hid (HD3.out.draws hb2 hc2)
    have HS : Hid (d.size ≤ maxLen) := small_le hd
    clear hb2 hc2 hd HD3
    generalize (x == 1) = st
    have a0 : w4.cell? ⟨w.heap.size, 4, none⟩ = some (.bool c.after.set) := (HD4.out.at 0 rfl).at 4 rfl
    have a1 : w4.cell? ⟨w.heap.size, 5, none⟩ = some (.string c.after.data) := (HD4.out.at 0 rfl).at 5 rfl
    have f0 : w4.frozen? ⟨w.heap.size, 4, none⟩ = false := (HD4.out.at 0 rfl).frozen 4
    have f1 : w4.frozen? ⟨w.heap.size, 5, none⟩ = false := (HD4.out.at 0 rfl).frozen 5
    have HD5 : Hid (Dr w C [⟨w.heap.size, 29, chCells ⟨c.page, c.slot, c.before, ⟨st, d⟩⟩⟩, ⟨w.heap.size + 1, 29, chCells chNil⟩] ((w4.setCell ⟨w.heap.size, 4, none⟩ (.bool st)).setCell ⟨w.heap.size, 5, none⟩ (.string d))) := (HD4.out.set 0 rfl 4 (.bool st)).set 0 rfl 5 (.string d)
    go_wp2_with (first | ((with_reducible refine wpList_load_ob 29 (.tmp 3) w.heap.size (chCells ⟨c.page, c.slot, c.before, ⟨st, d⟩⟩) 29 HU.out ?_ ?_ ?_ ?_ ?_); (exact rfl); (exact HD5.out.get 0 rfl); (exact rfl); (exact info_ch); simp only [Act.put, List.setIfInBounds_toArray, List.set_cons_zero, List.set_cons_succ]) | ((with_reducible refine wpList_store_ob 29 (.tmp 4) (w.heap.size + 1) (chCells ⟨c.page, c.slot, c.before, ⟨st, d⟩⟩) (chCells chNil) 29 ?_ ?_ ?_ ?_ ?_ ?_ ?_); (exact rfl); (exact rfl); (exact HD5.out.get 1 rfl); (exact info_ch); (exact rfl); (exact (oneCell_ch _)); skip))
    refine bodyPost_ret (results_ob Try.results12 _ _ (w.heap.size + 1) (chCells ⟨c.page, c.slot, c.before, ⟨st, d⟩⟩) 29 _ rfl ((HD5.out.row 1 rfl (chCells ⟨c.page, c.slot, c.before, ⟨st, d⟩⟩)).get 1 rfl) HU.out rfl info_ch) rfl ?_
    exact ⟨⟨c.page, c.slot, c.before, ⟨st, d⟩⟩, rfl, ⟨HG.out.page, HG.out.slot, HG.out.before, HS.out⟩, (HD5.out.row 1 rfl (chCells ⟨c.page, c.slot, c.before, ⟨st, d⟩⟩)).bes, (HD5.out.row 1 rfl (chCells ⟨c.page, c.slot, c.before, ⟨st, d⟩⟩)).codes⟩
end Go.Proofs.Ytbadfcnkpeohfaa
