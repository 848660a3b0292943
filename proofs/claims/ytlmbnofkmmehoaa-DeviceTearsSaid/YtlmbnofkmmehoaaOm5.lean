/- texts of a claim, one after the other: the walk of the program's check of a fault, the program's check of the faults, the program's Valid and reach, the program's Read -/
import Derived.Test.YtlmbnofkmmehoaaOm4
import Derived.Shelf.Abstract
/- the walk of the program's check of a fault -/
namespace Go.Proofs.Ytlmbnofkmmehoaa
open Go.RowKit
set_option maxRecDepth 20000
set_option linter.unusedSimpArgs false
set_option linter.unusedVariables false

set_option maxHeartbeats 8000000 in
theorem validFault_any {p u f : Value} {d : Dv} {R : List Rng} (x : Flt) (w : World) (h : DvRd p u f d R) (hR : RdIn w R) (hx : GoodFlt x) :
    Calls Try.prog 54 #[.agg (dvCells p d u f).toArray, .agg (fltCells x).toArray] w fun e w' => e = .returned (.bool (fltOkB d.pages.length d.writes x)) ∧ Below w.heap.size w w' := by
  have HI : Hid (∀ page W, Calls Try.prog 59 #[.agg (dvCells p d u f).toArray, .int .i64 page] W fun e w' => e = .returned (.bool (inB d.pages.length page)) ∧ Below W.heap.size W w') := fun page W => isPage_dv page W h
  have HQ : Hid (fltOkB d.pages.length d.writes x = (rangesP d.pages.length d.writes x && formB x)) := by show _ = _; unfold fltOkB; rw [rangesP_eq, formB_shape]
  have hne : ∀ W, Sem.run Try.prog (binOp .neq 29 (.agg (fltCells (redR x).1).toArray) (.agg (fltCells x).toArray)) W = .ok (.bool (!sameV (redR x).1 x)) W := fun W => neq_flt (red_good hx) hx W
  obtain ⟨pa, pc, rfl, hp1, hp3, hP2⟩ := h.pages.open hR
  obtain ⟨ua, uc, rfl, hu1, hu3, hU2⟩ := h.unread.open hR
  obtain ⟨fa, fc, rfl, hf1, hf3, hF2⟩ := h.faults.open hR
  obtain ⟨fs, hud⟩ := under_dv
  have HUD := Lib.hid hud
  obtain ⟨fs2, huf⟩ := under_flt
  have HUF := Lib.hid huf
  clear hud huf
  clear h hR hP2 hU2 hF2 hx hp1 hp3 hu1 hu3 hf1 hf3
  have h1 := ((Hp.start w).put 27 (dvCells (.slice pa d.pages.length pc) d (.slice ua d.unread.length uc) (.slice fa d.faults.length fc))).put 29 (fltCells x)
  simp only [World.size_alloc, List.nil_append, List.cons_append] at h1
  have HS0 : Hid (Hp w [.ob w.heap.size 27 (dvCells (.slice pa d.pages.length pc) d (.slice ua d.unread.length uc) (.slice fa d.faults.length fc)), .ob (w.heap.size + 1) 29 (fltCells x)] ((w.alloc (.cells (dvCells (.slice pa d.pages.length pc) d (.slice ua d.unread.length uc) (.slice fa d.faults.length fc)).toArray 27)).alloc (.cells (fltCells x).toArray 29))) := h1
  clear h1
  go_enter Try.func54, Try.ntmps54
  go_wp2_with (first | ((with_reducible refine wpList_load_ob 29 (.tmp 3) ((w.heap.size + 1)) (fltCells x) 29 HUF.out ?_ ?_ ?_ ?_ ?_); (exact rfl); (exact (HS0.out).get 1 rfl); (exact rfl); (exact info_flt); simp only [Act.put, List.setIfInBounds_toArray, List.set_cons_zero, List.set_cons_succ]))
  refine (reduced_any x _).mono ?_
  rintro e w3 ⟨rfl, hb⟩
  have HS2 : Hid (Hp w [.ob (w.heap.size) 27 (dvCells (.slice pa d.pages.length pc) d (.slice ua d.unread.length uc) (.slice fa d.faults.length fc)), .ob ((w.heap.size + 1)) 29 (fltCells x)] w3) := (HS0.out).calls hb
  clear hb
  clear HS0
  generalize (w.heap.size + 1) = B1 at *
  have b0 : ((w3.alloc (.cells (fltCells fltNil).toArray 29)).setRow (w3.heap.size) (fltCells (redR x).1).toArray).cell? ⟨B1, 0, none⟩ = some (.int .i64 x.kind) := (((HS2.out).put 29 (fltCells fltNil)).row 2 rfl (fltCells (redR x).1)).at 1 rfl 0 rfl
  have b1 : ((w3.alloc (.cells (fltCells fltNil).toArray 29)).setRow (w3.heap.size) (fltCells (redR x).1).toArray).cell? ⟨B1, 1, none⟩ = some (.int .i64 x.at_) := (((HS2.out).put 29 (fltCells fltNil)).row 2 rfl (fltCells (redR x).1)).at 1 rfl 1 rfl
  have b2 : ((w3.alloc (.cells (fltCells fltNil).toArray 29)).setRow (w3.heap.size) (fltCells (redR x).1).toArray).cell? ⟨B1, 2, none⟩ = some (.int .i64 x.page) := (((HS2.out).put 29 (fltCells fltNil)).row 2 rfl (fltCells (redR x).1)).at 1 rfl 2 rfl
  have b3 : ((w3.alloc (.cells (fltCells fltNil).toArray 29)).setRow (w3.heap.size) (fltCells (redR x).1).toArray).cell? ⟨B1, 3, none⟩ = some (.int .i64 x.target) := (((HS2.out).put 29 (fltCells fltNil)).row 2 rfl (fltCells (redR x).1)).at 1 rfl 3 rfl
  have b4 : ((w3.alloc (.cells (fltCells fltNil).toArray 29)).setRow (w3.heap.size) (fltCells (redR x).1).toArray).cell? ⟨B1, 4, none⟩ = some (.int .i64 x.byte) := (((HS2.out).put 29 (fltCells fltNil)).row 2 rfl (fltCells (redR x).1)).at 1 rfl 4 rfl
  have b5 : ((w3.alloc (.cells (fltCells fltNil).toArray 29)).setRow (w3.heap.size) (fltCells (redR x).1).toArray).cell? ⟨B1, 5, none⟩ = some (.int .u8 x.mask) := (((HS2.out).put 29 (fltCells fltNil)).row 2 rfl (fltCells (redR x).1)).at 1 rfl 5 rfl
  have c1 : ((w3.alloc (.cells (fltCells fltNil).toArray 29)).setRow (w3.heap.size) (fltCells (redR x).1).toArray).cell? ⟨(w.heap.size), 1, none⟩ = some (.int .i64 d.writes) := (((HS2.out).put 29 (fltCells fltNil)).row 2 rfl (fltCells (redR x).1)).at 0 rfl 1 rfl
  cases hk : (redR x).2
  case false =>
    have HX : Hid (formB x = false) := by show _ = _; unfold formB; rw [hk]; rfl
    go_wp2_with (first | ((with_reducible refine wpList_alloc_ob 29 (fltCells fltNil) ?_ ?_); (exact alloc_flt); simp only [Act.put, List.setIfInBounds_toArray, List.set_cons_zero, List.set_cons_succ]) | ((with_reducible refine wpList_store_ob 29 (.tmp 5) (w3.heap.size) (fltCells (redR x).1) (fltCells fltNil) 29 ?_ ?_ ?_ ?_ ?_ ?_ ?_); (exact rfl); (exact rfl); (exact ((HS2.out).put 29 (fltCells fltNil)).get 2 rfl); (exact info_flt); (exact rfl); (exact (oneCell_flt _)); skip) | ((with_reducible refine wpList_load_ob_w 29 (.tmp 5) (w3.heap.size) (fltCells (redR x).1) 29 HUF.out ?_ ?_ ?_ ?_ ?_ ?_); (exact rfl); (exact rfl); (exact (((HS2.out).put 29 (fltCells fltNil)).row 2 rfl (fltCells (redR x).1)).get 2 rfl); (exact rfl); (exact info_flt); simp only [Act.put, List.setIfInBounds_toArray, List.set_cons_zero, List.set_cons_succ]) | ((with_reducible refine wpList_load_ob_w 29 (.tmp 3) B1 (fltCells x) 29 HUF.out ?_ ?_ ?_ ?_ ?_ ?_); (exact rfl); (exact rfl); (exact (((HS2.out).put 29 (fltCells fltNil)).row 2 rfl (fltCells (redR x).1)).get 1 rfl); (exact rfl); (exact info_flt); simp only [Act.put, List.setIfInBounds_toArray, List.set_cons_zero, List.set_cons_succ]))
    go_ret
    exact ⟨by rw [HQ.out, HX.out, Bool.and_false]; rfl, (((HS2.out).put 29 (fltCells fltNil)).row 2 rfl (fltCells (redR x).1)).old⟩
  case true =>
    cases hs : sameV (redR x).1 x
    case false =>
      have HX : Hid (formB x = false) := by show _ = _; unfold formB; rw [hs, Bool.false_and, Bool.and_false]
      rw [hs] at hne
      go_wp2_with (first | ((with_reducible refine wpList_alloc_ob 29 (fltCells fltNil) ?_ ?_); (exact alloc_flt); simp only [Act.put, List.setIfInBounds_toArray, List.set_cons_zero, List.set_cons_succ]) | ((with_reducible refine wpList_store_ob 29 (.tmp 5) (w3.heap.size) (fltCells (redR x).1) (fltCells fltNil) 29 ?_ ?_ ?_ ?_ ?_ ?_ ?_); (exact rfl); (exact rfl); (exact ((HS2.out).put 29 (fltCells fltNil)).get 2 rfl); (exact info_flt); (exact rfl); (exact (oneCell_flt _)); skip) | ((with_reducible refine wpList_load_ob_w 29 (.tmp 5) (w3.heap.size) (fltCells (redR x).1) 29 HUF.out ?_ ?_ ?_ ?_ ?_ ?_); (exact rfl); (exact rfl); (exact (((HS2.out).put 29 (fltCells fltNil)).row 2 rfl (fltCells (redR x).1)).get 2 rfl); (exact rfl); (exact info_flt); simp only [Act.put, List.setIfInBounds_toArray, List.set_cons_zero, List.set_cons_succ]) | ((with_reducible refine wpList_load_ob_w 29 (.tmp 3) B1 (fltCells x) 29 HUF.out ?_ ?_ ?_ ?_ ?_ ?_); (exact rfl); (exact rfl); (exact (((HS2.out).put 29 (fltCells fltNil)).row 2 rfl (fltCells (redR x).1)).get 1 rfl); (exact rfl); (exact info_flt); simp only [Act.put, List.setIfInBounds_toArray, List.set_cons_zero, List.set_cons_succ]))
      go_ret
      exact ⟨by rw [HQ.out, HX.out, Bool.and_false]; rfl, (((HS2.out).put 29 (fltCells fltNil)).row 2 rfl (fltCells (redR x).1)).old⟩
    case true =>
      rw [hs] at hne
      by_cases k4 : x.kind = 4
      case pos =>
        have e4 : (x.kind == 4) = true := by rw [k4]; rfl
        by_cases m0 : x.mask = 0
        case pos =>
          have em : (x.mask == 0) = true := by rw [m0]; rfl
          have HX : Hid (formB x = false) := by show _ = _; unfold formB; rw [hk, hs]; simp [k4, m0]
          clear k4 m0
          go_wp2_with (first | ((with_reducible refine wpList_alloc_ob 29 (fltCells fltNil) ?_ ?_); (exact alloc_flt); simp only [Act.put, List.setIfInBounds_toArray, List.set_cons_zero, List.set_cons_succ]) | ((with_reducible refine wpList_store_ob 29 (.tmp 5) (w3.heap.size) (fltCells (redR x).1) (fltCells fltNil) 29 ?_ ?_ ?_ ?_ ?_ ?_ ?_); (exact rfl); (exact rfl); (exact ((HS2.out).put 29 (fltCells fltNil)).get 2 rfl); (exact info_flt); (exact rfl); (exact (oneCell_flt _)); skip) | ((with_reducible refine wpList_load_ob_w 29 (.tmp 5) (w3.heap.size) (fltCells (redR x).1) 29 HUF.out ?_ ?_ ?_ ?_ ?_ ?_); (exact rfl); (exact rfl); (exact (((HS2.out).put 29 (fltCells fltNil)).row 2 rfl (fltCells (redR x).1)).get 2 rfl); (exact rfl); (exact info_flt); simp only [Act.put, List.setIfInBounds_toArray, List.set_cons_zero, List.set_cons_succ]) | ((with_reducible refine wpList_load_ob_w 29 (.tmp 3) B1 (fltCells x) 29 HUF.out ?_ ?_ ?_ ?_ ?_ ?_); (exact rfl); (exact rfl); (exact (((HS2.out).put 29 (fltCells fltNil)).row 2 rfl (fltCells (redR x).1)).get 1 rfl); (exact rfl); (exact info_flt); simp only [Act.put, List.setIfInBounds_toArray, List.set_cons_zero, List.set_cons_succ]))
          go_ret
          exact ⟨by rw [HQ.out, HX.out, Bool.and_false]; rfl, (((HS2.out).put 29 (fltCells fltNil)).row 2 rfl (fltCells (redR x).1)).old⟩
        case neg =>
          have em : (x.mask == 0) = false := by rw [beq_eq_false_iff_ne]; exact m0
          have hform : formB x = true := by unfold formB; rw [hk, hs]; simp [k4, m0]
          clear k4 m0
          by_cases a1 : d.writes < x.at_
          case neg =>
            have HX : Hid ((rangesP d.pages.length d.writes x && formB x) = false) := by show _ = _; unfold rangesP; simp [a1]
            go_wp2_with (first | ((with_reducible refine wpList_alloc_ob 29 (fltCells fltNil) ?_ ?_); (exact alloc_flt); simp only [Act.put, List.setIfInBounds_toArray, List.set_cons_zero, List.set_cons_succ]) | ((with_reducible refine wpList_store_ob 29 (.tmp 5) (w3.heap.size) (fltCells (redR x).1) (fltCells fltNil) 29 ?_ ?_ ?_ ?_ ?_ ?_ ?_); (exact rfl); (exact rfl); (exact ((HS2.out).put 29 (fltCells fltNil)).get 2 rfl); (exact info_flt); (exact rfl); (exact (oneCell_flt _)); skip) | ((with_reducible refine wpList_load_ob_w 29 (.tmp 5) (w3.heap.size) (fltCells (redR x).1) 29 HUF.out ?_ ?_ ?_ ?_ ?_ ?_); (exact rfl); (exact rfl); (exact (((HS2.out).put 29 (fltCells fltNil)).row 2 rfl (fltCells (redR x).1)).get 2 rfl); (exact rfl); (exact info_flt); simp only [Act.put, List.setIfInBounds_toArray, List.set_cons_zero, List.set_cons_succ]) | ((with_reducible refine wpList_load_ob_w 29 (.tmp 3) B1 (fltCells x) 29 HUF.out ?_ ?_ ?_ ?_ ?_ ?_); (exact rfl); (exact rfl); (exact (((HS2.out).put 29 (fltCells fltNil)).row 2 rfl (fltCells (redR x).1)).get 1 rfl); (exact rfl); (exact info_flt); simp only [Act.put, List.setIfInBounds_toArray, List.set_cons_zero, List.set_cons_succ]))
            go_ret
            exact ⟨by rw [HQ.out, HX.out]; first | rfl | (show Ending.returned (.bool (decide (x.byte < 256))) = _; simp [a4]), (((HS2.out).put 29 (fltCells fltNil)).row 2 rfl (fltCells (redR x).1)).old⟩
          case pos =>
            by_cases a2 : x.at_ ≤ 1099511627776
            case neg =>
              have HX : Hid ((rangesP d.pages.length d.writes x && formB x) = false) := by show _ = _; unfold rangesP; simp [a2]
              go_wp2_with (first | ((with_reducible refine wpList_alloc_ob 29 (fltCells fltNil) ?_ ?_); (exact alloc_flt); simp only [Act.put, List.setIfInBounds_toArray, List.set_cons_zero, List.set_cons_succ]) | ((with_reducible refine wpList_store_ob 29 (.tmp 5) (w3.heap.size) (fltCells (redR x).1) (fltCells fltNil) 29 ?_ ?_ ?_ ?_ ?_ ?_ ?_); (exact rfl); (exact rfl); (exact ((HS2.out).put 29 (fltCells fltNil)).get 2 rfl); (exact info_flt); (exact rfl); (exact (oneCell_flt _)); skip) | ((with_reducible refine wpList_load_ob_w 29 (.tmp 5) (w3.heap.size) (fltCells (redR x).1) 29 HUF.out ?_ ?_ ?_ ?_ ?_ ?_); (exact rfl); (exact rfl); (exact (((HS2.out).put 29 (fltCells fltNil)).row 2 rfl (fltCells (redR x).1)).get 2 rfl); (exact rfl); (exact info_flt); simp only [Act.put, List.setIfInBounds_toArray, List.set_cons_zero, List.set_cons_succ]) | ((with_reducible refine wpList_load_ob_w 29 (.tmp 3) B1 (fltCells x) 29 HUF.out ?_ ?_ ?_ ?_ ?_ ?_); (exact rfl); (exact rfl); (exact (((HS2.out).put 29 (fltCells fltNil)).row 2 rfl (fltCells (redR x).1)).get 1 rfl); (exact rfl); (exact info_flt); simp only [Act.put, List.setIfInBounds_toArray, List.set_cons_zero, List.set_cons_succ]))
              go_ret
              exact ⟨by rw [HQ.out, HX.out]; first | rfl | (show Ending.returned (.bool (decide (x.byte < 256))) = _; simp [a4]), (((HS2.out).put 29 (fltCells fltNil)).row 2 rfl (fltCells (redR x).1)).old⟩
            case pos =>
              go_wp2_with (first | ((with_reducible refine wpList_alloc_ob 29 (fltCells fltNil) ?_ ?_); (exact alloc_flt); simp only [Act.put, List.setIfInBounds_toArray, List.set_cons_zero, List.set_cons_succ]) | ((with_reducible refine wpList_store_ob 29 (.tmp 5) (w3.heap.size) (fltCells (redR x).1) (fltCells fltNil) 29 ?_ ?_ ?_ ?_ ?_ ?_ ?_); (exact rfl); (exact rfl); (exact ((HS2.out).put 29 (fltCells fltNil)).get 2 rfl); (exact info_flt); (exact rfl); (exact (oneCell_flt _)); skip) | ((with_reducible refine wpList_load_ob_w 29 (.tmp 5) (w3.heap.size) (fltCells (redR x).1) 29 HUF.out ?_ ?_ ?_ ?_ ?_ ?_); (exact rfl); (exact rfl); (exact (((HS2.out).put 29 (fltCells fltNil)).row 2 rfl (fltCells (redR x).1)).get 2 rfl); (exact rfl); (exact info_flt); simp only [Act.put, List.setIfInBounds_toArray, List.set_cons_zero, List.set_cons_succ]) | ((with_reducible refine wpList_load_ob_w 29 (.tmp 3) B1 (fltCells x) 29 HUF.out ?_ ?_ ?_ ?_ ?_ ?_); (exact rfl); (exact rfl); (exact (((HS2.out).put 29 (fltCells fltNil)).row 2 rfl (fltCells (redR x).1)).get 1 rfl); (exact rfl); (exact info_flt); simp only [Act.put, List.setIfInBounds_toArray, List.set_cons_zero, List.set_cons_succ]) | ((with_reducible refine wpList_load_ob_w 27 (.tmp 2) (w.heap.size) (dvCells (.slice pa d.pages.length pc) d (.slice ua d.unread.length uc) (.slice fa d.faults.length fc)) 27 HUD.out ?_ ?_ ?_ ?_ ?_ ?_); (exact rfl); (exact rfl); (exact (((HS2.out).put 29 (fltCells fltNil)).row 2 rfl (fltCells (redR x).1)).get 0 rfl); (exact rfl); (exact info_dv); simp only [Act.put, List.setIfInBounds_toArray, List.set_cons_zero, List.set_cons_succ]))
              refine (HI.out x.page _).mono ?_
              rintro e w4 ⟨rfl, hb⟩
              have HS3 : Hid (Hp w [.ob (w.heap.size) 27 (dvCells (.slice pa d.pages.length pc) d (.slice ua d.unread.length uc) (.slice fa d.faults.length fc)), .ob B1 29 (fltCells x), .ob (w3.heap.size) 29 (fltCells (redR x).1)] w4) := (((HS2.out).put 29 (fltCells fltNil)).row 2 rfl (fltCells (redR x).1)).calls hb
              clear hb
              clear HS2
              generalize w3.heap.size = B2 at *
              have b2 : w4.cell? ⟨B1, 2, none⟩ = some (.int .i64 x.page) := (HS3.out).at 1 rfl 2 rfl
              have b3 : w4.cell? ⟨B1, 3, none⟩ = some (.int .i64 x.target) := (HS3.out).at 1 rfl 3 rfl
              have b4 : w4.cell? ⟨B1, 4, none⟩ = some (.int .i64 x.byte) := (HS3.out).at 1 rfl 4 rfl
              cases i0 : inB d.pages.length x.page
              case false =>
                have HX : Hid ((rangesP d.pages.length d.writes x && formB x) = false) := by show _ = _; unfold rangesP; simp [i0]
                go_wp2_with fail
                go_ret
                exact ⟨by rw [HQ.out, HX.out]; first | rfl | (show Ending.returned (.bool (decide (x.byte < 256))) = _; simp [a4]), (HS3.out).old⟩
              case true =>
                go_wp2_with (first | ((with_reducible refine wpList_load_ob_w 27 (.tmp 2) (w.heap.size) (dvCells (.slice pa d.pages.length pc) d (.slice ua d.unread.length uc) (.slice fa d.faults.length fc)) 27 HUD.out ?_ ?_ ?_ ?_ ?_ ?_); (exact rfl); (exact rfl); (exact (HS3.out).get 0 rfl); (exact rfl); (exact info_dv); simp only [Act.put, List.setIfInBounds_toArray, List.set_cons_zero, List.set_cons_succ]))
                refine (HI.out x.target _).mono ?_
                rintro e w5 ⟨rfl, hb⟩
                have HS4 : Hid (Hp w [.ob (w.heap.size) 27 (dvCells (.slice pa d.pages.length pc) d (.slice ua d.unread.length uc) (.slice fa d.faults.length fc)), .ob B1 29 (fltCells x), .ob B2 29 (fltCells (redR x).1)] w5) := (HS3.out).calls hb
                clear hb
                clear HS3
                have b2 : w5.cell? ⟨B1, 2, none⟩ = some (.int .i64 x.page) := (HS4.out).at 1 rfl 2 rfl
                have b3 : w5.cell? ⟨B1, 3, none⟩ = some (.int .i64 x.target) := (HS4.out).at 1 rfl 3 rfl
                have b4 : w5.cell? ⟨B1, 4, none⟩ = some (.int .i64 x.byte) := (HS4.out).at 1 rfl 4 rfl
                cases i1 : inB d.pages.length x.target
                case false =>
                  have HX : Hid ((rangesP d.pages.length d.writes x && formB x) = false) := by show _ = _; unfold rangesP; simp [i1]
                  go_wp2_with fail
                  go_ret
                  exact ⟨by rw [HQ.out, HX.out]; first | rfl | (show Ending.returned (.bool (decide (x.byte < 256))) = _; simp [a4]), (HS4.out).old⟩
                case true =>
                  by_cases a3 : 0 ≤ x.byte
                  case neg =>
                    have HX : Hid ((rangesP d.pages.length d.writes x && formB x) = false) := by show _ = _; unfold rangesP; simp [a3]
                    go_wp2_with fail
                    go_ret
                    exact ⟨by rw [HQ.out, HX.out]; first | rfl | (show Ending.returned (.bool (decide (x.byte < 256))) = _; simp [a4]), (HS4.out).old⟩
                  case pos =>
                    by_cases a4 : x.byte < 256
                    case neg =>
                      have HX : Hid ((rangesP d.pages.length d.writes x && formB x) = false) := by show _ = _; unfold rangesP; simp [a4]
                      go_wp2_with fail
                      go_ret
                      exact ⟨by rw [HQ.out, HX.out]; first | rfl | (show Ending.returned (.bool (decide (x.byte < 256))) = _; simp [a4]), (HS4.out).old⟩
                    case pos =>
                      have HX : Hid ((rangesP d.pages.length d.writes x && formB x) = true) := by show _ = _; rw [hform, Bool.and_true]; unfold rangesP; simp [a1, a2, i0, i1, a3, a4]
                      go_wp2_with fail
                      go_ret
                      exact ⟨by rw [HQ.out, HX.out]; first | rfl | (show Ending.returned (.bool (decide (x.byte < 256))) = _; simp [a4]), (HS4.out).old⟩
      case neg =>
        have e4 : (x.kind == 4) = false := by rw [beq_eq_false_iff_ne]; exact k4
        have hform : formB x = true := by unfold formB; rw [hk, hs]; simp [k4]
        clear k4
        by_cases a1 : d.writes < x.at_
        case neg =>
          have HX : Hid ((rangesP d.pages.length d.writes x && formB x) = false) := by show _ = _; unfold rangesP; simp [a1]
          go_wp2_with (first | ((with_reducible refine wpList_alloc_ob 29 (fltCells fltNil) ?_ ?_); (exact alloc_flt); simp only [Act.put, List.setIfInBounds_toArray, List.set_cons_zero, List.set_cons_succ]) | ((with_reducible refine wpList_store_ob 29 (.tmp 5) (w3.heap.size) (fltCells (redR x).1) (fltCells fltNil) 29 ?_ ?_ ?_ ?_ ?_ ?_ ?_); (exact rfl); (exact rfl); (exact ((HS2.out).put 29 (fltCells fltNil)).get 2 rfl); (exact info_flt); (exact rfl); (exact (oneCell_flt _)); skip) | ((with_reducible refine wpList_load_ob_w 29 (.tmp 5) (w3.heap.size) (fltCells (redR x).1) 29 HUF.out ?_ ?_ ?_ ?_ ?_ ?_); (exact rfl); (exact rfl); (exact (((HS2.out).put 29 (fltCells fltNil)).row 2 rfl (fltCells (redR x).1)).get 2 rfl); (exact rfl); (exact info_flt); simp only [Act.put, List.setIfInBounds_toArray, List.set_cons_zero, List.set_cons_succ]) | ((with_reducible refine wpList_load_ob_w 29 (.tmp 3) B1 (fltCells x) 29 HUF.out ?_ ?_ ?_ ?_ ?_ ?_); (exact rfl); (exact rfl); (exact (((HS2.out).put 29 (fltCells fltNil)).row 2 rfl (fltCells (redR x).1)).get 1 rfl); (exact rfl); (exact info_flt); simp only [Act.put, List.setIfInBounds_toArray, List.set_cons_zero, List.set_cons_succ]))
          go_ret
          exact ⟨by rw [HQ.out, HX.out]; first | rfl | (show Ending.returned (.bool (decide (x.byte < 256))) = _; simp [a4]), (((HS2.out).put 29 (fltCells fltNil)).row 2 rfl (fltCells (redR x).1)).old⟩
        case pos =>
          by_cases a2 : x.at_ ≤ 1099511627776
          case neg =>
            have HX : Hid ((rangesP d.pages.length d.writes x && formB x) = false) := by show _ = _; unfold rangesP; simp [a2]
            go_wp2_with (first | ((with_reducible refine wpList_alloc_ob 29 (fltCells fltNil) ?_ ?_); (exact alloc_flt); simp only [Act.put, List.setIfInBounds_toArray, List.set_cons_zero, List.set_cons_succ]) | ((with_reducible refine wpList_store_ob 29 (.tmp 5) (w3.heap.size) (fltCells (redR x).1) (fltCells fltNil) 29 ?_ ?_ ?_ ?_ ?_ ?_ ?_); (exact rfl); (exact rfl); (exact ((HS2.out).put 29 (fltCells fltNil)).get 2 rfl); (exact info_flt); (exact rfl); (exact (oneCell_flt _)); skip) | ((with_reducible refine wpList_load_ob_w 29 (.tmp 5) (w3.heap.size) (fltCells (redR x).1) 29 HUF.out ?_ ?_ ?_ ?_ ?_ ?_); (exact rfl); (exact rfl); (exact (((HS2.out).put 29 (fltCells fltNil)).row 2 rfl (fltCells (redR x).1)).get 2 rfl); (exact rfl); (exact info_flt); simp only [Act.put, List.setIfInBounds_toArray, List.set_cons_zero, List.set_cons_succ]) | ((with_reducible refine wpList_load_ob_w 29 (.tmp 3) B1 (fltCells x) 29 HUF.out ?_ ?_ ?_ ?_ ?_ ?_); (exact rfl); (exact rfl); (exact (((HS2.out).put 29 (fltCells fltNil)).row 2 rfl (fltCells (redR x).1)).get 1 rfl); (exact rfl); (exact info_flt); simp only [Act.put, List.setIfInBounds_toArray, List.set_cons_zero, List.set_cons_succ]))
            go_ret
            exact ⟨by rw [HQ.out, HX.out]; first | rfl | (show Ending.returned (.bool (decide (x.byte < 256))) = _; simp [a4]), (((HS2.out).put 29 (fltCells fltNil)).row 2 rfl (fltCells (redR x).1)).old⟩
          case pos =>
            go_wp2_with (first | ((with_reducible refine wpList_alloc_ob 29 (fltCells fltNil) ?_ ?_); (exact alloc_flt); simp only [Act.put, List.setIfInBounds_toArray, List.set_cons_zero, List.set_cons_succ]) | ((with_reducible refine wpList_store_ob 29 (.tmp 5) (w3.heap.size) (fltCells (redR x).1) (fltCells fltNil) 29 ?_ ?_ ?_ ?_ ?_ ?_ ?_); (exact rfl); (exact rfl); (exact ((HS2.out).put 29 (fltCells fltNil)).get 2 rfl); (exact info_flt); (exact rfl); (exact (oneCell_flt _)); skip) | ((with_reducible refine wpList_load_ob_w 29 (.tmp 5) (w3.heap.size) (fltCells (redR x).1) 29 HUF.out ?_ ?_ ?_ ?_ ?_ ?_); (exact rfl); (exact rfl); (exact (((HS2.out).put 29 (fltCells fltNil)).row 2 rfl (fltCells (redR x).1)).get 2 rfl); (exact rfl); (exact info_flt); simp only [Act.put, List.setIfInBounds_toArray, List.set_cons_zero, List.set_cons_succ]) | ((with_reducible refine wpList_load_ob_w 29 (.tmp 3) B1 (fltCells x) 29 HUF.out ?_ ?_ ?_ ?_ ?_ ?_); (exact rfl); (exact rfl); (exact (((HS2.out).put 29 (fltCells fltNil)).row 2 rfl (fltCells (redR x).1)).get 1 rfl); (exact rfl); (exact info_flt); simp only [Act.put, List.setIfInBounds_toArray, List.set_cons_zero, List.set_cons_succ]) | ((with_reducible refine wpList_load_ob_w 27 (.tmp 2) (w.heap.size) (dvCells (.slice pa d.pages.length pc) d (.slice ua d.unread.length uc) (.slice fa d.faults.length fc)) 27 HUD.out ?_ ?_ ?_ ?_ ?_ ?_); (exact rfl); (exact rfl); (exact (((HS2.out).put 29 (fltCells fltNil)).row 2 rfl (fltCells (redR x).1)).get 0 rfl); (exact rfl); (exact info_dv); simp only [Act.put, List.setIfInBounds_toArray, List.set_cons_zero, List.set_cons_succ]))
            refine (HI.out x.page _).mono ?_
            rintro e w4 ⟨rfl, hb⟩
            have HS3 : Hid (Hp w [.ob (w.heap.size) 27 (dvCells (.slice pa d.pages.length pc) d (.slice ua d.unread.length uc) (.slice fa d.faults.length fc)), .ob B1 29 (fltCells x), .ob (w3.heap.size) 29 (fltCells (redR x).1)] w4) := (((HS2.out).put 29 (fltCells fltNil)).row 2 rfl (fltCells (redR x).1)).calls hb
            clear hb
            clear HS2
            generalize w3.heap.size = B2 at *
            have b2 : w4.cell? ⟨B1, 2, none⟩ = some (.int .i64 x.page) := (HS3.out).at 1 rfl 2 rfl
            have b3 : w4.cell? ⟨B1, 3, none⟩ = some (.int .i64 x.target) := (HS3.out).at 1 rfl 3 rfl
            have b4 : w4.cell? ⟨B1, 4, none⟩ = some (.int .i64 x.byte) := (HS3.out).at 1 rfl 4 rfl
            cases i0 : inB d.pages.length x.page
            case false =>
              have HX : Hid ((rangesP d.pages.length d.writes x && formB x) = false) := by show _ = _; unfold rangesP; simp [i0]
              go_wp2_with fail
              go_ret
              exact ⟨by rw [HQ.out, HX.out]; first | rfl | (show Ending.returned (.bool (decide (x.byte < 256))) = _; simp [a4]), (HS3.out).old⟩
            case true =>
              go_wp2_with (first | ((with_reducible refine wpList_load_ob_w 27 (.tmp 2) (w.heap.size) (dvCells (.slice pa d.pages.length pc) d (.slice ua d.unread.length uc) (.slice fa d.faults.length fc)) 27 HUD.out ?_ ?_ ?_ ?_ ?_ ?_); (exact rfl); (exact rfl); (exact (HS3.out).get 0 rfl); (exact rfl); (exact info_dv); simp only [Act.put, List.setIfInBounds_toArray, List.set_cons_zero, List.set_cons_succ]))
              refine (HI.out x.target _).mono ?_
              rintro e w5 ⟨rfl, hb⟩
              have HS4 : Hid (Hp w [.ob (w.heap.size) 27 (dvCells (.slice pa d.pages.length pc) d (.slice ua d.unread.length uc) (.slice fa d.faults.length fc)), .ob B1 29 (fltCells x), .ob B2 29 (fltCells (redR x).1)] w5) := (HS3.out).calls hb
              clear hb
              clear HS3
              have b2 : w5.cell? ⟨B1, 2, none⟩ = some (.int .i64 x.page) := (HS4.out).at 1 rfl 2 rfl
              have b3 : w5.cell? ⟨B1, 3, none⟩ = some (.int .i64 x.target) := (HS4.out).at 1 rfl 3 rfl
              have b4 : w5.cell? ⟨B1, 4, none⟩ = some (.int .i64 x.byte) := (HS4.out).at 1 rfl 4 rfl
              cases i1 : inB d.pages.length x.target
              case false =>
                have HX : Hid ((rangesP d.pages.length d.writes x && formB x) = false) := by show _ = _; unfold rangesP; simp [i1]
                go_wp2_with fail
                go_ret
                exact ⟨by rw [HQ.out, HX.out]; first | rfl | (show Ending.returned (.bool (decide (x.byte < 256))) = _; simp [a4]), (HS4.out).old⟩
              case true =>
                by_cases a3 : 0 ≤ x.byte
                case neg =>
                  have HX : Hid ((rangesP d.pages.length d.writes x && formB x) = false) := by show _ = _; unfold rangesP; simp [a3]
                  go_wp2_with fail
                  go_ret
                  exact ⟨by rw [HQ.out, HX.out]; first | rfl | (show Ending.returned (.bool (decide (x.byte < 256))) = _; simp [a4]), (HS4.out).old⟩
                case pos =>
                  by_cases a4 : x.byte < 256
                  case neg =>
                    have HX : Hid ((rangesP d.pages.length d.writes x && formB x) = false) := by show _ = _; unfold rangesP; simp [a4]
                    go_wp2_with fail
                    go_ret
                    exact ⟨by rw [HQ.out, HX.out]; first | rfl | (show Ending.returned (.bool (decide (x.byte < 256))) = _; simp [a4]), (HS4.out).old⟩
                  case pos =>
                    have HX : Hid ((rangesP d.pages.length d.writes x && formB x) = true) := by show _ = _; rw [hform, Bool.and_true]; unfold rangesP; simp [a1, a2, i0, i1, a3, a4]
                    go_wp2_with fail
                    go_ret
                    exact ⟨by rw [HQ.out, HX.out]; first | rfl | (show Ending.returned (.bool (decide (x.byte < 256))) = _; simp [a4]), (HS4.out).old⟩
end Go.Proofs.Ytlmbnofkmmehoaa
/- the program's check of the faults -/
namespace Go.Proofs.Ytlmbnofkmmehoaa
open Go.RowKit
set_option maxRecDepth 20000
set_option linter.unusedSimpArgs false
set_option linter.unusedVariables false

theorem enters_vf : EntersF 69 := enters_of Try.func69 (by kernel_rfl) rfl
set_option maxHeartbeats 4000000 in
theorem vfFn {p u f : Value} {d : Dv} {R : List Rng} (B : Nat) (w : World) (h : DvRd p u f d R) (hR : RdIn w R) (hg : ∀ x ∈ d.faults, GoodFlt x) (hB : w.heap[B]? = some (.cells (dvCells p d u f).toArray 27 (0, 0))) :
    FltFn 69 #[.pointer (some ⟨B, 0, none⟩)] (fun x => !fltOkB d.pages.length d.writes x) d.faults w := by
  intro W x hx hb
  have HVF : Hid (∀ W', Below w.heap.size w W' → Calls Try.prog 54 #[.agg (dvCells p d u f).toArray, .agg (fltCells x).toArray] W' fun e w' => e = .returned (.bool (fltOkB d.pages.length d.writes x)) ∧ Below W'.heap.size W' w') := fun W' hb' => validFault_any x W' h (hR.below hb') (hg x hx)
  have hBlt : B < w.heap.size := (Array.getElem?_eq_some_iff.1 hB).1
  obtain ⟨fs, hud⟩ := under_dv
  have HUD := Lib.hid hud
  obtain ⟨fs2, huf⟩ := under_flt
  have HUF := Lib.hid huf
  have HB : Hid (∀ W', Below w.heap.size w W' → W'.heap[B]? = some (.cells (dvCells p d u f).toArray 27 (0, 0))) := fun W' hb' => (hb'.block B hBlt).trans hB
  have hSz : B < W.heap.size := Nat.lt_of_lt_of_le hBlt hb.size
  have HS0 : Hid (Hp W [.ob W.heap.size 29 (fltCells x)] (W.alloc (.cells (fltCells x).toArray 29))) := (Hp.start W).put 29 (fltCells x)
  have HBl : Hid (∀ W', Below W.heap.size W W' → Below w.heap.size w W') := fun W' hb' => hb.trans (hb'.mono hb.size)
  show Calls Try.prog 69 #[.agg (fltCells x).toArray, .pointer (some ⟨B, 0, none⟩)] W fun e w' => e = .returned (.bool (!fltOkB d.pages.length d.writes x)) ∧ Below W.heap.size W w'
  clear h hR hg hB hud huf hx hb hBlt hSz
  have hc := HVF.out _ (HBl.out _ HS0.out.old)
  clear HVF
  generalize fltOkB d.pages.length d.writes x = q at *
  go_enter Try.func69, Try.ntmps69
  go_wp2_with (first | ((with_reducible refine wpList_load_ob 27 (.tmp 1) B (dvCells p d u f) 27 HUD.out ?_ ?_ ?_ ?_ ?_); (exact rfl); (exact HB.out _ (HBl.out _ HS0.out.old)); (exact rfl); (exact info_dv); simp only [Act.put, List.setIfInBounds_toArray, List.set_cons_zero, List.set_cons_succ]) | ((with_reducible refine wpList_load_ob 29 (.tmp 2) W.heap.size (fltCells x) 29 HUF.out ?_ ?_ ?_ ?_ ?_); (exact rfl); (exact (HS0.out).get 0 rfl); (exact rfl); (exact info_flt); simp only [Act.put, List.setIfInBounds_toArray, List.set_cons_zero, List.set_cons_succ]))
  refine hc.mono ?_
  rintro e w2 ⟨rfl, hb⟩
  have HS1 : Hid (Hp W [.ob W.heap.size 29 (fltCells x)] w2) := HS0.out.calls hb
  clear hb hc
  cases q
  · go_wp2_with fail
    go_ret
    exact ⟨rfl, HS1.out.old⟩
  · go_wp2_with fail
    go_ret
    exact ⟨rfl, HS1.out.old⟩
set_option maxHeartbeats 4000000 in
theorem validFaults_any {p u f : Value} {d : Dv} {R : List Rng} (w : World) (h : DvRd p u f d R) (hR : RdIn w R) (hg : ∀ x ∈ d.faults, GoodFlt x) :
    Calls Try.prog 52 #[.agg (dvCells p d u f).toArray] w fun e w' => e = .returned (.bool (!decide (64 < (d.faults.length : Int)) && faultsB d)) ∧ Below w.heap.size w w' := by
  have HI : Hid (d.faults.length ≤ 64 → ∀ B W, Below w.heap.size w W → W.heap[B]? = some (.cells (dvCells p d u f).toArray 27 (0, 0)) → Calls Try.prog 62 #[f, .func (.func 69) #[] #[.pointer (some ⟨B, 0, none⟩)]] W fun e w' => e = .returned (.int .i64 (idxR (fun x => !fltOkB d.pages.length d.writes x) d.faults)) ∧ Below W.heap.size W w') :=
    fun hl B W hb hB => idxFlt_any _ _ _ d.faults f R W enters_vf (vfFn B W h (hR.below hb) hg hB) h.faults (hR.below hb) (by omega)
  have HAll : Hid (faultsB d = true → idxR (fun x => !fltOkB d.pages.length d.writes x) d.faults = -1) := fun h => idxR_none (by simpa [faultsB] using h)
  have HNo : Hid (faultsB d = false → 0 ≤ idxR (fun x => !fltOkB d.pages.length d.writes x) d.faults) := fun h => by
    unfold idxR
    cases hf : d.faults.findIdx? (fun x => !fltOkB d.pages.length d.writes x) with
    | none =>
      rw [List.findIdx?_eq_none_iff] at hf
      have : faultsB d = true := List.all_eq_true.2 (fun x hx => by simpa using hf x hx)
      rw [this] at h; cases h
    | some i => show (0 : Int) ≤ i; omega
  obtain ⟨pa, pc, rfl, hp1, hp3, hP2⟩ := h.pages.open hR
  obtain ⟨ua, uc, rfl, hu1, hu3, hU2⟩ := h.unread.open hR
  obtain ⟨fa, fc, rfl, hf1, hf3, hF2⟩ := h.faults.open hR
  clear h hR hg hP2 hU2 hF2 hp1 hp3 hu1 hu3 hf1 hf3
  have h1 := (Hp.start w).put 27 (dvCells (.slice pa d.pages.length pc) d (.slice ua d.unread.length uc) (.slice fa d.faults.length fc))
  have HS0 : Hid (Hp w [.ob w.heap.size 27 (dvCells (.slice pa d.pages.length pc) d (.slice ua d.unread.length uc) (.slice fa d.faults.length fc))] (w.alloc (.cells (dvCells (.slice pa d.pages.length pc) d (.slice ua d.unread.length uc) (.slice fa d.faults.length fc)).toArray 27))) := h1
  clear h1
  have b4 : (w.alloc (.cells (dvCells (.slice pa d.pages.length pc) d (.slice ua d.unread.length uc) (.slice fa d.faults.length fc)).toArray 27)).cell? ⟨w.heap.size, 4, none⟩ = some (.slice fa d.faults.length fc) := HS0.out.at 0 rfl 4 rfl
  by_cases c1 : 64 < (d.faults.length : Int)
  · have HX := Lib.hid c1
    go_enter Try.func52, Try.ntmps52
    go_wp2_with fail
    go_ret
    exact ⟨ret_bool (by simp [HX.out]), HS0.out.old⟩
  · have HX := Lib.hid c1
    have hcall := HI.out (by omega) w.heap.size _ HS0.out.old (HS0.out.get 0 rfl)
    clear HI
    go_enter Try.func52, Try.ntmps52
    go_wp2_with (first | (go_at_call 62; refine hcall.mono ?_; rintro e w2 ⟨rfl, hb⟩) | go_in)
    all_goals (
      have HS1 := Lib.hid (HS0.out.calls hb)
      go_ret
      refine ⟨ret_bool ?_, HS1.out.old⟩
      have e1 := HX.out
      cases hall : faultsB d
      · have := HNo.out hall
        first | (simp [*]; done) | (exfalso; omega)
      · have := HAll.out hall
        first | (simp [*]; done) | (exfalso; omega) | simp_all)
end Go.Proofs.Ytlmbnofkmmehoaa
/- the program's Valid and reach -/
namespace Go.Proofs.Ytlmbnofkmmehoaa
open Go.RowKit
set_option maxRecDepth 20000
set_option linter.unusedSimpArgs false
set_option linter.unusedVariables false

def okP (d : Dv) : Bool :=
  (!decide ((d.pages.length : Int) < 1) && (!decide (64 < (d.pages.length : Int)) && all256 d.pages)) && (decide (0 ≤ d.writes) && (decide (d.writes ≤ 1099511627776) && (unreadB d && (!decide (64 < (d.faults.length : Int)) && faultsB d))))
theorem okP_eq (d : Dv) : okP d = dvOkB d := by
  unfold okP dvOkB numsB
  rw [show all256 d.pages = pagesB d from rfl, Bool.eq_iff_iff]
  simp only [Bool.and_eq_true, Bool.not_eq_true', decide_eq_true_eq, decide_eq_false_iff_not]
  constructor
  · rintro ⟨⟨h1, h2, h3⟩, h4, h5, h6, h7, h8⟩
    exact ⟨⟨h1, h2, by omega, by omega, h7⟩, h3, h6, h8⟩
  · rintro ⟨⟨h1, h2, h4, h5, h7⟩, h3, h6, h8⟩
    exact ⟨⟨h1, h2, h3⟩, by omega, by omega, h6, h7, h8⟩
set_option maxHeartbeats 8000000 in
theorem valid_any {p u f : Value} {d : Dv} {R : List Rng} (w : World) (h : DvRd p u f d R) (hR : RdIn w R) (hg : GoodDv d) :
    Calls Try.prog 22 #[.agg (dvCells p d u f).toArray] w fun e w' => e = .returned (.bool (dvOkB d)) ∧ Below w.heap.size w w' := by
  rw [← okP_eq]
  have HPg : Hid (∀ W, Below w.heap.size w W → Calls Try.prog 50 #[p] W fun e w' => e = .returned (.bool (!decide ((d.pages.length : Int) < 1) && (!decide (64 < (d.pages.length : Int)) && all256 d.pages))) ∧ Below W.heap.size W w') := fun W hb => validPages_any d.pages p R W h.pages (hR.below hb) hg.pages
  have HUn : Hid (∀ W, Below w.heap.size w W → Calls Try.prog 51 #[.agg (dvCells p d u f).toArray] W fun e w' => e = .returned (.bool (unreadB d)) ∧ Below W.heap.size W w') := fun W hb => validUn_any W h (hR.below hb) hg.unread
  have HFa : Hid (∀ W, Below w.heap.size w W → Calls Try.prog 52 #[.agg (dvCells p d u f).toArray] W fun e w' => e = .returned (.bool (!decide (64 < (d.faults.length : Int)) && faultsB d)) ∧ Below W.heap.size W w') := fun W hb => validFaults_any W h (hR.below hb) hg.faults
  have HOk : Hid (okP d = ((!decide ((d.pages.length : Int) < 1) && (!decide (64 < (d.pages.length : Int)) && all256 d.pages)) && (decide (0 ≤ d.writes) && (decide (d.writes ≤ 1099511627776) && (unreadB d && (!decide (64 < (d.faults.length : Int)) && faultsB d)))))) := rfl
  obtain ⟨pa, pc, rfl, hp1, hp3, hP2⟩ := h.pages.open hR
  obtain ⟨ua, uc, rfl, hu1, hu3, hU2⟩ := h.unread.open hR
  obtain ⟨fa, fc, rfl, hf1, hf3, hF2⟩ := h.faults.open hR
  obtain ⟨fs, hud⟩ := under_dv
  have HUD := Lib.hid hud
  obtain ⟨fs2, huf⟩ := under_flt
  have HUF := Lib.hid huf
  clear hud huf
  clear h hR hg hP2 hU2 hF2 hp1 hp3 hu1 hu3 hf1 hf3
  have h1 := (Hp.start w).put 27 (dvCells (.slice pa d.pages.length pc) d (.slice ua d.unread.length uc) (.slice fa d.faults.length fc))
  have HS0 : Hid (Hp w [.ob w.heap.size 27 (dvCells (.slice pa d.pages.length pc) d (.slice ua d.unread.length uc) (.slice fa d.faults.length fc))] (w.alloc (.cells (dvCells (.slice pa d.pages.length pc) d (.slice ua d.unread.length uc) (.slice fa d.faults.length fc)).toArray 27))) := h1
  clear h1
  have b0 : (w.alloc (.cells (dvCells (.slice pa d.pages.length pc) d (.slice ua d.unread.length uc) (.slice fa d.faults.length fc)).toArray 27)).cell? ⟨w.heap.size, 0, none⟩ = some (.slice pa d.pages.length pc) := HS0.out.at 0 rfl 0 rfl
  generalize (!decide ((d.pages.length : Int) < 1) && (!decide (64 < (d.pages.length : Int)) && all256 d.pages)) = q1 at *
  generalize (!decide (64 < (d.faults.length : Int)) && faultsB d) = q3 at *
  generalize unreadB d = q2 at *
  go_enter Try.func22, Try.ntmps22
  go_wp2_with fail
  refine (HPg.out _ (HS0.out).old).mono ?_
  rintro e w3 ⟨rfl, hb⟩
  have HS2 : Hid (Hp w [.ob (w.heap.size) 27 (dvCells (.slice pa d.pages.length pc) d (.slice ua d.unread.length uc) (.slice fa d.faults.length fc))] w3) := (HS0.out).calls hb
  clear hb
  clear HS0
  clear HPg
  clear b0
  have b1 : w3.cell? ⟨w.heap.size, 1, none⟩ = some (.int .i64 d.writes) := (HS2.out).at 0 rfl 1 rfl
  cases q1
  case false =>
    have HX : Hid (okP d = false) := by show _ = _; rw [HOk.out]; simp
    go_wp2_with fail
    go_ret
    exact ⟨by rw [HX.out]; rfl, (HS2.out).old⟩
  case true =>
    by_cases a1 : 0 ≤ d.writes
    case neg =>
      have HX : Hid (okP d = false) := by show _ = _; rw [HOk.out]; simp [a1]
      go_wp2_with fail
      go_ret
      exact ⟨by rw [HX.out]; rfl, (HS2.out).old⟩
    case pos =>
      by_cases a2 : d.writes ≤ 1099511627776
      case neg =>
        have HX : Hid (okP d = false) := by show _ = _; rw [HOk.out]; simp [a1, a2]
        go_wp2_with fail
        go_ret
        exact ⟨by rw [HX.out]; rfl, (HS2.out).old⟩
      case pos =>
        go_wp2_with (first | ((with_reducible refine wpList_load_ob_w 27 (.tmp 1) (w.heap.size) (dvCells (.slice pa d.pages.length pc) d (.slice ua d.unread.length uc) (.slice fa d.faults.length fc)) 27 HUD.out ?_ ?_ ?_ ?_ ?_ ?_); (exact rfl); (exact rfl); (exact (HS2.out).get 0 rfl); (exact rfl); (exact info_dv); simp only [Act.put, List.setIfInBounds_toArray, List.set_cons_zero, List.set_cons_succ]))
        refine (HUn.out _ (HS2.out).old).mono ?_
        rintro e w4 ⟨rfl, hb⟩
        have HS3 : Hid (Hp w [.ob (w.heap.size) 27 (dvCells (.slice pa d.pages.length pc) d (.slice ua d.unread.length uc) (.slice fa d.faults.length fc))] w4) := (HS2.out).calls hb
        clear hb
        clear HS2
        clear HUn
        cases q2
        case false =>
          have HX : Hid (okP d = false) := by show _ = _; rw [HOk.out]; simp [a1, a2]
          go_wp2_with fail
          go_ret
          exact ⟨by rw [HX.out]; rfl, (HS3.out).old⟩
        case true =>
          go_wp2_with (first | ((with_reducible refine wpList_load_ob_w 27 (.tmp 1) (w.heap.size) (dvCells (.slice pa d.pages.length pc) d (.slice ua d.unread.length uc) (.slice fa d.faults.length fc)) 27 HUD.out ?_ ?_ ?_ ?_ ?_ ?_); (exact rfl); (exact rfl); (exact (HS3.out).get 0 rfl); (exact rfl); (exact info_dv); simp only [Act.put, List.setIfInBounds_toArray, List.set_cons_zero, List.set_cons_succ]))
          refine (HFa.out _ (HS3.out).old).mono ?_
          rintro e w5 ⟨rfl, hb⟩
          have HS4 : Hid (Hp w [.ob (w.heap.size) 27 (dvCells (.slice pa d.pages.length pc) d (.slice ua d.unread.length uc) (.slice fa d.faults.length fc))] w5) := (HS3.out).calls hb
          clear hb
          clear HS3
          clear HFa
          cases q3
          case false =>
            have HX : Hid (okP d = false) := by show _ = _; rw [HOk.out]; simp [a1, a2]
            go_wp2_with fail
            go_ret
            exact ⟨by rw [HX.out]; rfl, (HS4.out).old⟩
          case true =>
            have HX : Hid (okP d = true) := by show _ = _; rw [HOk.out]; simp [a1, a2]
            go_wp2_with fail
            go_ret
            exact ⟨by rw [HX.out]; rfl, (HS4.out).old⟩
set_option maxHeartbeats 8000000 in
theorem reach_any {p u f : Value} {d : Dv} {R : List Rng} (page : Int) (w : World) (h : DvRd p u f d R) (hR : RdIn w R) (hg : GoodDv d) :
    Calls Try.prog 38 #[.agg (dvCells p d u f).toArray, .int .i64 page] w fun e w' => e = .returned (.int .i64 (usableR d page)) ∧ Below w.heap.size w w' := by
  have HV : Hid (∀ W, Below w.heap.size w W → Calls Try.prog 22 #[.agg (dvCells p d u f).toArray] W fun e w' => e = .returned (.bool (dvOkB d)) ∧ Below W.heap.size W w') := fun W hb => valid_any W h (hR.below hb) hg
  have HI : Hid (∀ W, Calls Try.prog 59 #[.agg (dvCells p d u f).toArray, .int .i64 page] W fun e w' => e = .returned (.bool (inB d.pages.length page)) ∧ Below W.heap.size W w') := fun W => isPage_dv page W h
  have HUs : Hid (∀ n, usableR d page = n → Ending.returned (Value.int .i64 n) = .returned (.int .i64 (usableR d page))) := fun n hn => by rw [hn]
  have HUq : Hid (usableR d page = if dvOkB d = false then 15 else if d.dead = true then 10 else if inB d.pages.length page = false then 1 else 0) := by
    show _ = _
    unfold usableR inB
    split
    · rfl
    · split
      · rfl
      · by_cases h1 : page < 0
        · rw [if_pos (.inl h1), if_pos (by simp [h1])]
        · by_cases h2 : (d.pages.length : Int) ≤ page
          · rw [if_pos (.inr h2), if_pos (by simp [h2])]
          · rw [if_neg (by omega), if_neg (by simp [h1, h2])]
  obtain ⟨pa, pc, rfl, hp1, hp3, hP2⟩ := h.pages.open hR
  obtain ⟨ua, uc, rfl, hu1, hu3, hU2⟩ := h.unread.open hR
  obtain ⟨fa, fc, rfl, hf1, hf3, hF2⟩ := h.faults.open hR
  obtain ⟨fs, hud⟩ := under_dv
  have HUD := Lib.hid hud
  obtain ⟨fs2, huf⟩ := under_flt
  have HUF := Lib.hid huf
  clear hud huf
  clear h hR hg hP2 hU2 hF2 hp1 hp3 hu1 hu3 hf1 hf3
  have h1 := (Hp.start w).put 27 (dvCells (.slice pa d.pages.length pc) d (.slice ua d.unread.length uc) (.slice fa d.faults.length fc))
  have HS0 : Hid (Hp w [.ob w.heap.size 27 (dvCells (.slice pa d.pages.length pc) d (.slice ua d.unread.length uc) (.slice fa d.faults.length fc))] (w.alloc (.cells (dvCells (.slice pa d.pages.length pc) d (.slice ua d.unread.length uc) (.slice fa d.faults.length fc)).toArray 27))) := h1
  clear h1
  generalize dvOkB d = q1 at *
  generalize inB d.pages.length page = q2 at *
  go_enter Try.func38, Try.ntmps38
  go_wp2_with (first | ((with_reducible refine wpList_load_ob 27 (.tmp 2) (w.heap.size) (dvCells (.slice pa d.pages.length pc) d (.slice ua d.unread.length uc) (.slice fa d.faults.length fc)) 27 HUD.out ?_ ?_ ?_ ?_ ?_); (exact rfl); (exact (HS0.out).get 0 rfl); (exact rfl); (exact info_dv); simp only [Act.put, List.setIfInBounds_toArray, List.set_cons_zero, List.set_cons_succ]))
  refine (HV.out _ (HS0.out).old).mono ?_
  rintro e w3 ⟨rfl, hb⟩
  have HS2 : Hid (Hp w [.ob (w.heap.size) 27 (dvCells (.slice pa d.pages.length pc) d (.slice ua d.unread.length uc) (.slice fa d.faults.length fc))] w3) := (HS0.out).calls hb
  clear hb
  clear HS0
  clear HV
  have b3 : w3.cell? ⟨w.heap.size, 3, none⟩ = some (.bool d.dead) := (HS2.out).at 0 rfl 3 rfl
  cases q1
  case false =>
    have HX : Hid (usableR d page = 15) := by show _ = _; rw [HUq.out]; simp
    go_wp2_with fail
    go_ret
    exact ⟨HUs.out _ HX.out, (HS2.out).old⟩
  case true =>
    cases hd : d.dead
    case true =>
      rw [hd] at b3
      have HD : Hid (d.dead = true) := hd
      clear hd
      have HX : Hid (usableR d page = 10) := by show _ = _; rw [HUq.out]; simp [HD.out]
      go_wp2_with fail
      go_ret
      exact ⟨HUs.out _ HX.out, (HS2.out).old⟩
    case false =>
      rw [hd] at b3
      have HD : Hid (d.dead = false) := hd
      clear hd
      go_wp2_with (first | ((with_reducible refine wpList_load_ob 27 (.tmp 2) (w.heap.size) (dvCells (.slice pa d.pages.length pc) d (.slice ua d.unread.length uc) (.slice fa d.faults.length fc)) 27 HUD.out ?_ ?_ ?_ ?_ ?_); (exact rfl); (exact (HS2.out).get 0 rfl); (exact rfl); (exact info_dv); simp only [Act.put, List.setIfInBounds_toArray, List.set_cons_zero, List.set_cons_succ]))
      refine (HI.out _).mono ?_
      rintro e w4 ⟨rfl, hb⟩
      have HS3 : Hid (Hp w [.ob (w.heap.size) 27 (dvCells (.slice pa d.pages.length pc) d (.slice ua d.unread.length uc) (.slice fa d.faults.length fc))] w4) := (HS2.out).calls hb
      clear hb
      clear HS2
      clear HI
      cases q2
      case false =>
        have HX : Hid (usableR d page = 1) := by show _ = _; rw [HUq.out]; simp [HD.out]
        go_wp2_with fail
        go_ret
        exact ⟨HUs.out _ HX.out, (HS3.out).old⟩
      case true =>
        have HX : Hid (usableR d page = 0) := by show _ = _; rw [HUq.out]; simp [HD.out]
        go_wp2_with fail
        go_ret
        exact ⟨HUs.out _ HX.out, (HS3.out).old⟩
end Go.Proofs.Ytlmbnofkmmehoaa
/- the program's Read -/
namespace Go.Proofs.Ytlmbnofkmmehoaa
open Go.RowKit
set_option maxRecDepth 20000
set_option linter.unusedSimpArgs false
set_option linter.unusedVariables false

set_option maxHeartbeats 4000000 in
theorem index_any (l : List Int) (n : Int) (v : Value) (R : List Rng) (w : World) (hv : SlRd v 1 l.length (intRow l) R) (hR : RdIn w R) :
    Calls Try.prog 73 #[v, .int .i64 n] w fun e w' => ∃ r : Int, e = .returned (.int .i64 r) ∧ IdxIs (!hasB l n) r ∧ Below w.heap.size w w' := by
  obtain ⟨a, cap, rfl, hnc, hcm, hg⟩ := hv.open hR
  have HC : Hid (l.length ≤ cap ∧ cap ≤ maxLen) := ⟨hnc, hcm⟩
  clear hv hR hnc hcm
  go_enter Try.func73, Try.ntmps73
  go_wp2_with fail
  go_loopw [8] (fun i wr => ∃ k : Nat, k ≤ l.length ∧ i = .int .i64 k ∧ hasB (l.take k) n = false ∧ Below w.heap.size w wr) (fun i _ => l.length - (intOf i).toNat)
  case atStart => exact ⟨0, by omega, rfl, rfl, Below.refl _ _⟩
  case round =>
    obtain ⟨k, hk, rfl, hh, hb⟩ := hrel
    have HB := Lib.hid hb
    have HH := Lib.hid hh
    clear hb hh
    by_cases hlt : k < l.length
    · obtain ⟨g, off, rfl, hr⟩ := hg.out (by omega)
      have hc : wr.cell? ⟨g, off + k, none⟩ = some (.int .i64 l[k]) := hr wr HB.out k _ (intRow_at l k hlt)
      have hki : (k : Int) < (l.length : Int) := by omega
      have hk0 : (0 : Int) ≤ (k : Int) := by omega
      have hkm : (k : Int) < 9223372036854775807 := by have := HC.out; unfold maxLen at this; omega
      have HLt := Lib.hid hlt
      by_cases hx : l[k] = n
      · have hxb : (n == l[k]) = true := by rw [hx]; simp
        have HX : Hid (hasB l n = true) := hasB_true hlt hx
        clear hr hx hg
        generalize l[k] = y at *
        go_wp2_with fail
        go_ret
        exact ⟨(k : Int), rfl, by rw [HX.out]; show (0 : Int) ≤ k; omega, HB.out⟩
      · have hxb : (n == l[k]) = false := by rw [beq_eq_false_iff_ne]; exact fun h => hx h.symm
        have HX : Hid (hasB (l.take (k + 1)) n = false) := by show _ = _; rw [hasB_take hlt, HH.out, Bool.false_or]; exact decide_eq_false hx
        clear hr hx hg
        generalize l[k] = y at *
        go_wp2_with fail
        go_roundw
        case rel => exact ⟨k + 1, by omega, by go_num, HX.out, HB.out⟩
        case measure => simp [intOf]; omega
    · obtain rfl : k = l.length := by omega
      rw [List.take_length] at HH
      go_wp2_with fail
      go_ret
      exact ⟨-1, rfl, by rw [HH.out]; rfl, HB.out⟩
set_option maxHeartbeats 4000000 in
theorem contains_any (l : List Int) (n : Int) (v : Value) (R : List Rng) (w : World) (hv : SlRd v 1 l.length (intRow l) R) (hR : RdIn w R) :
    Calls Try.prog 56 #[v, .int .i64 n] w fun e w' => e = .returned (.bool (hasB l n)) ∧ Below w.heap.size w w' := by
  have hc := index_any l n v R w hv hR
  clear hv hR
  generalize hasB l n = q at *
  go_enter Try.func56, Try.ntmps56
  go_wp2_with fail
  refine hc.mono ?_
  rintro e w2 ⟨r, rfl, hr, hb⟩
  clear hc
  cases q
  · have h0 : (0 : Int) ≤ -1 → False := by decide
    have hr' : r = -1 := hr
    subst hr'
    clear hr
    go_wp2_with fail
    go_ret
    exact ⟨rfl, hb⟩
  · have hr' : 0 ≤ r := hr
    clear hr
    go_wp2_with fail
    go_ret
    exact ⟨ret_bool (by simp [hr']), hb⟩
set_option maxHeartbeats 4000000 in
theorem read_any {p u f : Value} {d : Dv} {R : List Rng} (page : Int) (w : World) (h : DvRd p u f d R) (hR : RdIn w R) (hg : GoodDv d) :
    Calls Try.prog 31 #[.agg (dvCells p d u f).toArray, .int .i64 page] w fun e w' => e = .returned (.tuple #[.string (readR d page).1, .int .i64 (readR d page).2]) ∧ Below w.heap.size w w' := by
  have HV : Hid (∀ W, Below w.heap.size w W → Calls Try.prog 38 #[.agg (dvCells p d u f).toArray, .int .i64 page] W fun e w' => e = .returned (.int .i64 (usableR d page)) ∧ Below W.heap.size W w') := fun W hb => reach_any page W h (hR.below hb) hg
  have HHas : Hid (∀ W, Below w.heap.size w W → Calls Try.prog 56 #[u, .int .i64 page] W fun e w' => e = .returned (.bool (hasB d.unread page)) ∧ Below W.heap.size W w') := fun W hb => contains_any d.unread page u R W h.unread (hR.below hb)
  obtain ⟨fs, hud⟩ := under_dv
  have HUD := Lib.hid hud
  clear hud
  obtain ⟨pa, pc, rfl, p1, _, p2⟩ := h.pages.open hR
  obtain ⟨ua, uc, rfl, u1, _, u2⟩ := h.unread.open hR
  obtain ⟨fa, fc, rfl, f1, _, f2⟩ := h.faults.open hR
  clear h hR hg u2 f2
  have h1 := (Hp.start w).put 27 (dvCells (.slice pa d.pages.length pc) d (.slice ua d.unread.length uc) (.slice fa d.faults.length fc))
  have HS0 : Hid (Hp w [.ob w.heap.size 27 (dvCells (.slice pa d.pages.length pc) d (.slice ua d.unread.length uc) (.slice fa d.faults.length fc))] (w.alloc (.cells (dvCells (.slice pa d.pages.length pc) d (.slice ua d.unread.length uc) (.slice fa d.faults.length fc)).toArray 27))) := h1
  clear h1
  have HUs : Hid (∀ s n, readR d page = (s, n) → Ending.returned (Value.tuple #[.string s, .int .i64 n]) = .returned (.tuple #[.string (readR d page).1, .int .i64 (readR d page).2])) := fun s n hn => by rw [hn]
  go_enter Try.func31, Try.ntmps31
  go_wp2_with (first | ((with_reducible refine wpList_load_ob 27 (.tmp 2) (w.heap.size) (dvCells (.slice pa d.pages.length pc) d (.slice ua d.unread.length uc) (.slice fa d.faults.length fc)) 27 HUD.out ?_ ?_ ?_ ?_ ?_); (exact rfl); (exact (HS0.out).get 0 rfl); (exact rfl); (exact info_dv); simp only [Act.put, List.setIfInBounds_toArray, List.set_cons_zero, List.set_cons_succ]))
  refine (HV.out _ HS0.out.old).mono ?_
  rintro e w3 ⟨rfl, hb⟩
  have HS2 : Hid (Hp w [.ob (w.heap.size) 27 (dvCells (.slice pa d.pages.length pc) d (.slice ua d.unread.length uc) (.slice fa d.faults.length fc))] w3) := (HS0.out).calls hb
  clear hb
  clear HS0
  clear HV
  by_cases h0 : usableR d page = 0
  case neg =>
    have HX : Hid (¬ usableR d page = 0) := h0
    have hq : (usableR d page != 0) = true := by rw [bne_iff_ne]; exact h0
    go_wp2_with fail
    exact bodyPost_ret (v := .tuple #[.string ⟨#[]⟩, .int .i64 (usableR d page)]) (by simp [results, Try.results31, go_sem]) rfl ⟨HUs.out _ _ (by unfold readR; rw [if_pos HX.out]), HS2.out.old⟩
  case pos =>
    obtain ⟨_, _, g0, g1⟩ := usable_ok h0
    have HX : Hid (usableR d page = 0) := h0
    have hq : (usableR d page != 0) = false := by rw [h0]; rfl
    obtain ⟨k, rfl⟩ := Int.eq_ofNat_of_zero_le g0
    have hkn : k < d.pages.length := by omega
    have b2 : w3.cell? ⟨w.heap.size, 2, none⟩ = some (.slice ua d.unread.length uc) := HS2.out.at 0 rfl 2 rfl
    have HKn := Lib.hid hkn
    go_wp2_with fail
    refine (HHas.out _ HS2.out.old).mono ?_
    rintro e w4 ⟨rfl, hb⟩
    have HS3 : Hid (Hp w [.ob (w.heap.size) 27 (dvCells (.slice pa d.pages.length pc) d (.slice ua d.unread.length uc) (.slice fa d.faults.length fc))] w4) := (HS2.out).calls hb
    clear hb
    clear HS2
    clear HHas
    cases hh : hasB d.unread (k : Int)
    case true =>
      have HH : Hid (hasB d.unread (k : Int) = true) := hh
      go_wp2_with fail
      exact bodyPost_ret (v := .tuple #[.string ⟨#[]⟩, .int .i64 11]) (by simp [results, Try.results31, go_sem]) rfl ⟨HUs.out _ _ (by unfold readR; rw [if_neg (by rw [HX.out]; simp), if_pos HH.out]), HS3.out.old⟩
    case false =>
      have HH : Hid (¬ hasB d.unread (k : Int) = true) := by show ¬ _; rw [hh]; decide
      obtain ⟨g, off, rfl, hr⟩ := p2.out (by omega)
      obtain ⟨y, hy⟩ : ∃ y, d.pages[k] = y := ⟨_, rfl⟩
      have HYd : Hid (d.pages.getD (Int.toNat (k : Int)) ⟨#[]⟩ = y) := by show _ = _; rw [Int.toNat_natCast, List.getD_eq_getElem?_getD, List.getElem?_eq_getElem hkn]; exact hy
      have hcell : w4.cell? ⟨g, off + k, none⟩ = some (.string y) := by rw [← hy]; exact hr _ HS3.out.old k _ (strRow_at d.pages k hkn)
      have b0 : w4.cell? ⟨w.heap.size, 0, none⟩ = some (.slice (some ⟨g, off, none⟩) d.pages.length pc) := HS3.out.at 0 rfl 0 rfl
      clear hr hy
      go_wp2_with fail
      exact bodyPost_ret (v := .tuple #[.string y, .int .i64 0]) (by simp [results, Try.results31, go_sem]) rfl ⟨HUs.out _ _ (by unfold readR; rw [if_neg (by rw [HX.out]; simp), if_neg HH.out, HYd.out]), HS3.out.old⟩
end Go.Proofs.Ytlmbnofkmmehoaa
