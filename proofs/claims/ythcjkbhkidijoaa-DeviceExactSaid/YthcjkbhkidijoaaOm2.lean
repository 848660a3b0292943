/- texts of a claim, one after the other: the walk of the program's check of a fault, the program's check of the faults, the program's Valid and reach, the program's Read, the library's DeleteFunc over numbers, by one that equals a number in memory, the library's BinarySearch in ascending numbers, bits.Mul at one and a small number, the choices of the drawing package: Data, the choices of the drawing package: Bytes, the walks of the reference's blanks and New, the library's Repeat of one text, and the program's blanks, the walks of the reference's lists of numbers, the library's Insert of one number, the library's Insert of one number, where there is no room, what is kept of memory beside a rest that is not looked at; slices of one's own that a callee writes in place, the program's put, the program's fate: what becomes of a write, the program's carryOut, the program's strike: a byte rots, the walk of the reference's 'with', where a number goes in an ascending list, the program's strike: a page becomes unreadable -/
import Derived.Test.YthcjkbhkidijoaaOm1
import Derived.Shelf.Abstract
import Derived.WalkKit
import Derived.Deep.RegionWith
import Derived.Laws.CopyOwn
import Derived.Lib.AppendZerosOnto
import Derived.Lib.Overlaps
import Derived.Maps.AppendAt
import Derived.Lib.ConvBytes
/- the walk of the program's check of a fault -/
namespace Go.Proofs.Ythcjkbhkidijoaa
open Go.RowKit
set_option maxRecDepth 20000
set_option linter.unusedSimpArgs false
set_option linter.unusedVariables false

set_option maxHeartbeats 8000000 in
theorem validFault_any {p u f : Value} {d : Dv} {R : List Rng} (x : Flt) (w : World) (h : DvRd p u f d R) (hR : RdIn w R) (hx : GoodFlt x) :
    Calls Try.prog 54 #[.agg (dvCells p d u f).toArray, .agg (fltCells x).toArray] w fun e w' => e = .returned (.bool (fltOkB d.pages.length d.writes x)) ∧ Below w.heap.size w w' := by
  have HI : Hid (∀ page W, Calls Try.prog 59 #[.agg (dvCells p d u f).toArray, .int .i64 page] W fun e w' => e = .returned (.bool (inB d.pages.length page)) ∧ Below W.heap.size W w') := fun page W => isPage_dv page W h
  have HQ : Hid (fltOkB d.pages.length d.writes x = (rangesP d.pages.length d.writes x && formB x)) := by show _ = _; unfold fltOkB; rw [rangesP_eq, formB_shape]
  have hne : ∀ W, Sem.run Try.prog (binOp .neq 29 (.agg (fltCells (redR x).1).toArray) (.agg (fltCells x).toArray)) W = .ok (.bool (!sameV (redR x).1 x)) W := fun W => neq_flt (red_good hx) hx W
  obtain ⟨pa, pc, rfl, hp1, hp3, hP2⟩ := h.pages.open hR
  obtain ⟨ua, uc, rfl, hu1, hu3, hU2⟩ := h.unread.open hR
  obtain ⟨fa, fc, rfl, hf1, hf3, hF2⟩ := h.faults.open hR
  obtain ⟨fs, hud⟩ := under_dv
  have HUD := Lib.hid hud
  obtain ⟨fs2, huf⟩ := under_flt
  have HUF := Lib.hid huf
  clear hud huf
  clear h hR hP2 hU2 hF2 hx hp1 hp3 hu1 hu3 hf1 hf3
  have h1 := ((Hp.start w).put 27 (dvCells (.slice pa d.pages.length pc) d (.slice ua d.unread.length uc) (.slice fa d.faults.length fc))).put 29 (fltCells x)
  simp only [World.size_alloc, List.nil_append, List.cons_append] at h1
  have HS0 : Hid (Hp w [.ob w.heap.size 27 (dvCells (.slice pa d.pages.length pc) d (.slice ua d.unread.length uc) (.slice fa d.faults.length fc)), .ob (w.heap.size + 1) 29 (fltCells x)] ((w.alloc (.cells (dvCells (.slice pa d.pages.length pc) d (.slice ua d.unread.length uc) (.slice fa d.faults.length fc)).toArray 27)).alloc (.cells (fltCells x).toArray 29))) := h1
  clear h1
  go_enter Try.func54, Try.ntmps54
  go_wp2_with (first | ((with_reducible refine wpList_load_ob 29 (.tmp 3) ((w.heap.size + 1)) (fltCells x) 29 HUF.out ?_ ?_ ?_ ?_ ?_); (exact rfl); (exact (HS0.out).get 1 rfl); (exact rfl); (exact info_flt); simp only [Act.put, List.setIfInBounds_toArray, List.set_cons_zero, List.set_cons_succ]))
  refine (reduced_any x _).mono ?_
  rintro e w3 ⟨rfl, hb⟩
  have HS2 : Hid (Hp w [.ob (w.heap.size) 27 (dvCells (.slice pa d.pages.length pc) d (.slice ua d.unread.length uc) (.slice fa d.faults.length fc)), .ob ((w.heap.size + 1)) 29 (fltCells x)] w3) := (HS0.out).calls hb
  clear hb
  clear HS0
  generalize (w.heap.size + 1) = B1 at *
  have b0 : ((w3.alloc (.cells (fltCells fltNil).toArray 29)).setRow (w3.heap.size) (fltCells (redR x).1).toArray).cell? ⟨B1, 0, none⟩ = some (.int .i64 x.kind) := (((HS2.out).put 29 (fltCells fltNil)).row 2 rfl (fltCells (redR x).1)).at 1 rfl 0 rfl
  have b1 : ((w3.alloc (.cells (fltCells fltNil).toArray 29)).setRow (w3.heap.size) (fltCells (redR x).1).toArray).cell? ⟨B1, 1, none⟩ = some (.int .i64 x.at_) := (((HS2.out).put 29 (fltCells fltNil)).row 2 rfl (fltCells (redR x).1)).at 1 rfl 1 rfl
  have b2 : ((w3.alloc (.cells (fltCells fltNil).toArray 29)).setRow (w3.heap.size) (fltCells (redR x).1).toArray).cell? ⟨B1, 2, none⟩ = some (.int .i64 x.page) := (((HS2.out).put 29 (fltCells fltNil)).row 2 rfl (fltCells (redR x).1)).at 1 rfl 2 rfl
  have b3 : ((w3.alloc (.cells (fltCells fltNil).toArray 29)).setRow (w3.heap.size) (fltCells (redR x).1).toArray).cell? ⟨B1, 3, none⟩ = some (.int .i64 x.target) := (((HS2.out).put 29 (fltCells fltNil)).row 2 rfl (fltCells (redR x).1)).at 1 rfl 3 rfl
  have b4 : ((w3.alloc (.cells (fltCells fltNil).toArray 29)).setRow (w3.heap.size) (fltCells (redR x).1).toArray).cell? ⟨B1, 4, none⟩ = some (.int .i64 x.byte) := (((HS2.out).put 29 (fltCells fltNil)).row 2 rfl (fltCells (redR x).1)).at 1 rfl 4 rfl
  have b5 : ((w3.alloc (.cells (fltCells fltNil).toArray 29)).setRow (w3.heap.size) (fltCells (redR x).1).toArray).cell? ⟨B1, 5, none⟩ = some (.int .u8 x.mask) := (((HS2.out).put 29 (fltCells fltNil)).row 2 rfl (fltCells (redR x).1)).at 1 rfl 5 rfl
  have c1 : ((w3.alloc (.cells (fltCells fltNil).toArray 29)).setRow (w3.heap.size) (fltCells (redR x).1).toArray).cell? ⟨(w.heap.size), 1, none⟩ = some (.int .i64 d.writes) := (((HS2.out).put 29 (fltCells fltNil)).row 2 rfl (fltCells (redR x).1)).at 0 rfl 1 rfl
  cases hk : (redR x).2
  case false =>
    have HX : Hid (formB x = false) := by show _ = _; unfold formB; rw [hk]; rfl
    go_wp2_with (first | ((with_reducible refine wpList_alloc_ob 29 (fltCells fltNil) ?_ ?_); (exact alloc_flt); simp only [Act.put, List.setIfInBounds_toArray, List.set_cons_zero, List.set_cons_succ]) | ((with_reducible refine wpList_store_ob 29 (.tmp 5) (w3.heap.size) (fltCells (redR x).1) (fltCells fltNil) 29 ?_ ?_ ?_ ?_ ?_ ?_ ?_); (exact rfl); (exact rfl); (exact ((HS2.out).put 29 (fltCells fltNil)).get 2 rfl); (exact info_flt); (exact rfl); (exact (oneCell_flt _)); skip) | ((with_reducible refine wpList_load_ob_w 29 (.tmp 5) (w3.heap.size) (fltCells (redR x).1) 29 HUF.out ?_ ?_ ?_ ?_ ?_ ?_); (exact rfl); (exact rfl); (exact (((HS2.out).put 29 (fltCells fltNil)).row 2 rfl (fltCells (redR x).1)).get 2 rfl); (exact rfl); (exact info_flt); simp only [Act.put, List.setIfInBounds_toArray, List.set_cons_zero, List.set_cons_succ]) | ((with_reducible refine wpList_load_ob_w 29 (.tmp 3) B1 (fltCells x) 29 HUF.out ?_ ?_ ?_ ?_ ?_ ?_); (exact rfl); (exact rfl); (exact (((HS2.out).put 29 (fltCells fltNil)).row 2 rfl (fltCells (redR x).1)).get 1 rfl); (exact rfl); (exact info_flt); simp only [Act.put, List.setIfInBounds_toArray, List.set_cons_zero, List.set_cons_succ]))
    go_ret
    exact ⟨by rw [HQ.out, HX.out, Bool.and_false]; rfl, (((HS2.out).put 29 (fltCells fltNil)).row 2 rfl (fltCells (redR x).1)).old⟩
  case true =>
    cases hs : sameV (redR x).1 x
    case false =>
      have HX : Hid (formB x = false) := by show _ = _; unfold formB; rw [hs, Bool.false_and, Bool.and_false]
      rw [hs] at hne
      go_wp2_with (first | ((with_reducible refine wpList_alloc_ob 29 (fltCells fltNil) ?_ ?_); (exact alloc_flt); simp only [Act.put, List.setIfInBounds_toArray, List.set_cons_zero, List.set_cons_succ]) | ((with_reducible refine wpList_store_ob 29 (.tmp 5) (w3.heap.size) (fltCells (redR x).1) (fltCells fltNil) 29 ?_ ?_ ?_ ?_ ?_ ?_ ?_); (exact rfl); (exact rfl); (exact ((HS2.out).put 29 (fltCells fltNil)).get 2 rfl); (exact info_flt); (exact rfl); (exact (oneCell_flt _)); skip) | ((with_reducible refine wpList_load_ob_w 29 (.tmp 5) (w3.heap.size) (fltCells (redR x).1) 29 HUF.out ?_ ?_ ?_ ?_ ?_ ?_); (exact rfl); (exact rfl); (exact (((HS2.out).put 29 (fltCells fltNil)).row 2 rfl (fltCells (redR x).1)).get 2 rfl); (exact rfl); (exact info_flt); simp only [Act.put, List.setIfInBounds_toArray, List.set_cons_zero, List.set_cons_succ]) | ((with_reducible refine wpList_load_ob_w 29 (.tmp 3) B1 (fltCells x) 29 HUF.out ?_ ?_ ?_ ?_ ?_ ?_); (exact rfl); (exact rfl); (exact (((HS2.out).put 29 (fltCells fltNil)).row 2 rfl (fltCells (redR x).1)).get 1 rfl); (exact rfl); (exact info_flt); simp only [Act.put, List.setIfInBounds_toArray, List.set_cons_zero, List.set_cons_succ]))
      go_ret
      exact ⟨by rw [HQ.out, HX.out, Bool.and_false]; rfl, (((HS2.out).put 29 (fltCells fltNil)).row 2 rfl (fltCells (redR x).1)).old⟩
    case true =>
      rw [hs] at hne
      by_cases k4 : x.kind = 4
      case pos =>
        have e4 : (x.kind == 4) = true := by rw [k4]; rfl
        by_cases m0 : x.mask = 0
        case pos =>
          have em : (x.mask == 0) = true := by rw [m0]; rfl
          have HX : Hid (formB x = false) := by show _ = _; unfold formB; rw [hk, hs]; simp [k4, m0]
          clear k4 m0
          go_wp2_with (first | ((with_reducible refine wpList_alloc_ob 29 (fltCells fltNil) ?_ ?_); (exact alloc_flt); simp only [Act.put, List.setIfInBounds_toArray, List.set_cons_zero, List.set_cons_succ]) | ((with_reducible refine wpList_store_ob 29 (.tmp 5) (w3.heap.size) (fltCells (redR x).1) (fltCells fltNil) 29 ?_ ?_ ?_ ?_ ?_ ?_ ?_); (exact rfl); (exact rfl); (exact ((HS2.out).put 29 (fltCells fltNil)).get 2 rfl); (exact info_flt); (exact rfl); (exact (oneCell_flt _)); skip) | ((with_reducible refine wpList_load_ob_w 29 (.tmp 5) (w3.heap.size) (fltCells (redR x).1) 29 HUF.out ?_ ?_ ?_ ?_ ?_ ?_); (exact rfl); (exact rfl); (exact (((HS2.out).put 29 (fltCells fltNil)).row 2 rfl (fltCells (redR x).1)).get 2 rfl); (exact rfl); (exact info_flt); simp only [Act.put, List.setIfInBounds_toArray, List.set_cons_zero, List.set_cons_succ]) | ((with_reducible refine wpList_load_ob_w 29 (.tmp 3) B1 (fltCells x) 29 HUF.out ?_ ?_ ?_ ?_ ?_ ?_); (exact rfl); (exact rfl); (exact (((HS2.out).put 29 (fltCells fltNil)).row 2 rfl (fltCells (redR x).1)).get 1 rfl); (exact rfl); (exact info_flt); simp only [Act.put, List.setIfInBounds_toArray, List.set_cons_zero, List.set_cons_succ]))
          go_ret
          exact ⟨by rw [HQ.out, HX.out, Bool.and_false]; rfl, (((HS2.out).put 29 (fltCells fltNil)).row 2 rfl (fltCells (redR x).1)).old⟩
        case neg =>
          have em : (x.mask == 0) = false := by rw [beq_eq_false_iff_ne]; exact m0
          have hform : formB x = true := by unfold formB; rw [hk, hs]; simp [k4, m0]
          clear k4 m0
          by_cases a1 : d.writes < x.at_
          case neg =>
            have HX : Hid ((rangesP d.pages.length d.writes x && formB x) = false) := by show _ = _; unfold rangesP; simp [a1]
            go_wp2_with (first | ((with_reducible refine wpList_alloc_ob 29 (fltCells fltNil) ?_ ?_); (exact alloc_flt); simp only [Act.put, List.setIfInBounds_toArray, List.set_cons_zero, List.set_cons_succ]) | ((with_reducible refine wpList_store_ob 29 (.tmp 5) (w3.heap.size) (fltCells (redR x).1) (fltCells fltNil) 29 ?_ ?_ ?_ ?_ ?_ ?_ ?_); (exact rfl); (exact rfl); (exact ((HS2.out).put 29 (fltCells fltNil)).get 2 rfl); (exact info_flt); (exact rfl); (exact (oneCell_flt _)); skip) | ((with_reducible refine wpList_load_ob_w 29 (.tmp 5) (w3.heap.size) (fltCells (redR x).1) 29 HUF.out ?_ ?_ ?_ ?_ ?_ ?_); (exact rfl); (exact rfl); (exact (((HS2.out).put 29 (fltCells fltNil)).row 2 rfl (fltCells (redR x).1)).get 2 rfl); (exact rfl); (exact info_flt); simp only [Act.put, List.setIfInBounds_toArray, List.set_cons_zero, List.set_cons_succ]) | ((with_reducible refine wpList_load_ob_w 29 (.tmp 3) B1 (fltCells x) 29 HUF.out ?_ ?_ ?_ ?_ ?_ ?_); (exact rfl); (exact rfl); (exact (((HS2.out).put 29 (fltCells fltNil)).row 2 rfl (fltCells (redR x).1)).get 1 rfl); (exact rfl); (exact info_flt); simp only [Act.put, List.setIfInBounds_toArray, List.set_cons_zero, List.set_cons_succ]))
            go_ret
            exact ⟨by rw [HQ.out, HX.out]; first | rfl | (show Ending.returned (.bool (decide (x.byte < 256))) = _; simp [a4]), (((HS2.out).put 29 (fltCells fltNil)).row 2 rfl (fltCells (redR x).1)).old⟩
          case pos =>
            by_cases a2 : x.at_ ≤ 1099511627776
            case neg =>
              have HX : Hid ((rangesP d.pages.length d.writes x && formB x) = false) := by show _ = _; unfold rangesP; simp [a2]
              go_wp2_with (first | ((with_reducible refine wpList_alloc_ob 29 (fltCells fltNil) ?_ ?_); (exact alloc_flt); simp only [Act.put, List.setIfInBounds_toArray, List.set_cons_zero, List.set_cons_succ]) | ((with_reducible refine wpList_store_ob 29 (.tmp 5) (w3.heap.size) (fltCells (redR x).1) (fltCells fltNil) 29 ?_ ?_ ?_ ?_ ?_ ?_ ?_); (exact rfl); (exact rfl); (exact ((HS2.out).put 29 (fltCells fltNil)).get 2 rfl); (exact info_flt); (exact rfl); (exact (oneCell_flt _)); skip) | ((with_reducible refine wpList_load_ob_w 29 (.tmp 5) (w3.heap.size) (fltCells (redR x).1) 29 HUF.out ?_ ?_ ?_ ?_ ?_ ?_); (exact rfl); (exact rfl); (exact (((HS2.out).put 29 (fltCells fltNil)).row 2 rfl (fltCells (redR x).1)).get 2 rfl); (exact rfl); (exact info_flt); simp only [Act.put, List.setIfInBounds_toArray, List.set_cons_zero, List.set_cons_succ]) | ((with_reducible refine wpList_load_ob_w 29 (.tmp 3) B1 (fltCells x) 29 HUF.out ?_ ?_ ?_ ?_ ?_ ?_); (exact rfl); (exact rfl); (exact (((HS2.out).put 29 (fltCells fltNil)).row 2 rfl (fltCells (redR x).1)).get 1 rfl); (exact rfl); (exact info_flt); simp only [Act.put, List.setIfInBounds_toArray, List.set_cons_zero, List.set_cons_succ]))
              go_ret
              exact ⟨by rw [HQ.out, HX.out]; first | rfl | (show Ending.returned (.bool (decide (x.byte < 256))) = _; simp [a4]), (((HS2.out).put 29 (fltCells fltNil)).row 2 rfl (fltCells (redR x).1)).old⟩
            case pos =>
              go_wp2_with (first | ((with_reducible refine wpList_alloc_ob 29 (fltCells fltNil) ?_ ?_); (exact alloc_flt); simp only [Act.put, List.setIfInBounds_toArray, List.set_cons_zero, List.set_cons_succ]) | ((with_reducible refine wpList_store_ob 29 (.tmp 5) (w3.heap.size) (fltCells (redR x).1) (fltCells fltNil) 29 ?_ ?_ ?_ ?_ ?_ ?_ ?_); (exact rfl); (exact rfl); (exact ((HS2.out).put 29 (fltCells fltNil)).get 2 rfl); (exact info_flt); (exact rfl); (exact (oneCell_flt _)); skip) | ((with_reducible refine wpList_load_ob_w 29 (.tmp 5) (w3.heap.size) (fltCells (redR x).1) 29 HUF.out ?_ ?_ ?_ ?_ ?_ ?_); (exact rfl); (exact rfl); (exact (((HS2.out).put 29 (fltCells fltNil)).row 2 rfl (fltCells (redR x).1)).get 2 rfl); (exact rfl); (exact info_flt); simp only [Act.put, List.setIfInBounds_toArray, List.set_cons_zero, List.set_cons_succ]) | ((with_reducible refine wpList_load_ob_w 29 (.tmp 3) B1 (fltCells x) 29 HUF.out ?_ ?_ ?_ ?_ ?_ ?_); (exact rfl); (exact rfl); (exact (((HS2.out).put 29 (fltCells fltNil)).row 2 rfl (fltCells (redR x).1)).get 1 rfl); (exact rfl); (exact info_flt); simp only [Act.put, List.setIfInBounds_toArray, List.set_cons_zero, List.set_cons_succ]) | ((with_reducible refine wpList_load_ob_w 27 (.tmp 2) (w.heap.size) (dvCells (.slice pa d.pages.length pc) d (.slice ua d.unread.length uc) (.slice fa d.faults.length fc)) 27 HUD.out ?_ ?_ ?_ ?_ ?_ ?_); (exact rfl); (exact rfl); (exact (((HS2.out).put 29 (fltCells fltNil)).row 2 rfl (fltCells (redR x).1)).get 0 rfl); (exact rfl); (exact info_dv); simp only [Act.put, List.setIfInBounds_toArray, List.set_cons_zero, List.set_cons_succ]))
              refine (HI.out x.page _).mono ?_
              rintro e w4 ⟨rfl, hb⟩
              have HS3 : Hid (Hp w [.ob (w.heap.size) 27 (dvCells (.slice pa d.pages.length pc) d (.slice ua d.unread.length uc) (.slice fa d.faults.length fc)), .ob B1 29 (fltCells x), .ob (w3.heap.size) 29 (fltCells (redR x).1)] w4) := (((HS2.out).put 29 (fltCells fltNil)).row 2 rfl (fltCells (redR x).1)).calls hb
              clear hb
              clear HS2
              generalize w3.heap.size = B2 at *
              have b2 : w4.cell? ⟨B1, 2, none⟩ = some (.int .i64 x.page) := (HS3.out).at 1 rfl 2 rfl
              have b3 : w4.cell? ⟨B1, 3, none⟩ = some (.int .i64 x.target) := (HS3.out).at 1 rfl 3 rfl
              have b4 : w4.cell? ⟨B1, 4, none⟩ = some (.int .i64 x.byte) := (HS3.out).at 1 rfl 4 rfl
              cases i0 : inB d.pages.length x.page
              case false =>
                have HX : Hid ((rangesP d.pages.length d.writes x && formB x) = false) := by show _ = _; unfold rangesP; simp [i0]
                go_wp2_with fail
                go_ret
                exact ⟨by rw [HQ.out, HX.out]; first | rfl | (show Ending.returned (.bool (decide (x.byte < 256))) = _; simp [a4]), (HS3.out).old⟩
              case true =>
                go_wp2_with (first | ((with_reducible refine wpList_load_ob_w 27 (.tmp 2) (w.heap.size) (dvCells (.slice pa d.pages.length pc) d (.slice ua d.unread.length uc) (.slice fa d.faults.length fc)) 27 HUD.out ?_ ?_ ?_ ?_ ?_ ?_); (exact rfl); (exact rfl); (exact (HS3.out).get 0 rfl); (exact rfl); (exact info_dv); simp only [Act.put, List.setIfInBounds_toArray, List.set_cons_zero, List.set_cons_succ]))
                refine (HI.out x.target _).mono ?_
                rintro e w5 ⟨rfl, hb⟩
                have HS4 : Hid (Hp w [.ob (w.heap.size) 27 (dvCells (.slice pa d.pages.length pc) d (.slice ua d.unread.length uc) (.slice fa d.faults.length fc)), .ob B1 29 (fltCells x), .ob B2 29 (fltCells (redR x).1)] w5) := (HS3.out).calls hb
                clear hb
                clear HS3
                have b2 : w5.cell? ⟨B1, 2, none⟩ = some (.int .i64 x.page) := (HS4.out).at 1 rfl 2 rfl
                have b3 : w5.cell? ⟨B1, 3, none⟩ = some (.int .i64 x.target) := (HS4.out).at 1 rfl 3 rfl
                have b4 : w5.cell? ⟨B1, 4, none⟩ = some (.int .i64 x.byte) := (HS4.out).at 1 rfl 4 rfl
                cases i1 : inB d.pages.length x.target
                case false =>
                  have HX : Hid ((rangesP d.pages.length d.writes x && formB x) = false) := by show _ = _; unfold rangesP; simp [i1]
                  go_wp2_with fail
                  go_ret
                  exact ⟨by rw [HQ.out, HX.out]; first | rfl | (show Ending.returned (.bool (decide (x.byte < 256))) = _; simp [a4]), (HS4.out).old⟩
                case true =>
                  by_cases a3 : 0 ≤ x.byte
                  case neg =>
                    have HX : Hid ((rangesP d.pages.length d.writes x && formB x) = false) := by show _ = _; unfold rangesP; simp [a3]
                    go_wp2_with fail
                    go_ret
                    exact ⟨by rw [HQ.out, HX.out]; first | rfl | (show Ending.returned (.bool (decide (x.byte < 256))) = _; simp [a4]), (HS4.out).old⟩
                  case pos =>
                    by_cases a4 : x.byte < 256
                    case neg =>
                      have HX : Hid ((rangesP d.pages.length d.writes x && formB x) = false) := by show _ = _; unfold rangesP; simp [a4]
                      go_wp2_with fail
                      go_ret
                      exact ⟨by rw [HQ.out, HX.out]; first | rfl | (show Ending.returned (.bool (decide (x.byte < 256))) = _; simp [a4]), (HS4.out).old⟩
                    case pos =>
                      have HX : Hid ((rangesP d.pages.length d.writes x && formB x) = true) := by show _ = _; rw [hform, Bool.and_true]; unfold rangesP; simp [a1, a2, i0, i1, a3, a4]
                      go_wp2_with fail
                      go_ret
                      exact ⟨by rw [HQ.out, HX.out]; first | rfl | (show Ending.returned (.bool (decide (x.byte < 256))) = _; simp [a4]), (HS4.out).old⟩
      case neg =>
        have e4 : (x.kind == 4) = false := by rw [beq_eq_false_iff_ne]; exact k4
        have hform : formB x = true := by unfold formB; rw [hk, hs]; simp [k4]
        clear k4
        by_cases a1 : d.writes < x.at_
        case neg =>
          have HX : Hid ((rangesP d.pages.length d.writes x && formB x) = false) := by show _ = _; unfold rangesP; simp [a1]
          go_wp2_with (first | ((with_reducible refine wpList_alloc_ob 29 (fltCells fltNil) ?_ ?_); (exact alloc_flt); simp only [Act.put, List.setIfInBounds_toArray, List.set_cons_zero, List.set_cons_succ]) | ((with_reducible refine wpList_store_ob 29 (.tmp 5) (w3.heap.size) (fltCells (redR x).1) (fltCells fltNil) 29 ?_ ?_ ?_ ?_ ?_ ?_ ?_); (exact rfl); (exact rfl); (exact ((HS2.out).put 29 (fltCells fltNil)).get 2 rfl); (exact info_flt); (exact rfl); (exact (oneCell_flt _)); skip) | ((with_reducible refine wpList_load_ob_w 29 (.tmp 5) (w3.heap.size) (fltCells (redR x).1) 29 HUF.out ?_ ?_ ?_ ?_ ?_ ?_); (exact rfl); (exact rfl); (exact (((HS2.out).put 29 (fltCells fltNil)).row 2 rfl (fltCells (redR x).1)).get 2 rfl); (exact rfl); (exact info_flt); simp only [Act.put, List.setIfInBounds_toArray, List.set_cons_zero, List.set_cons_succ]) | ((with_reducible refine wpList_load_ob_w 29 (.tmp 3) B1 (fltCells x) 29 HUF.out ?_ ?_ ?_ ?_ ?_ ?_); (exact rfl); (exact rfl); (exact (((HS2.out).put 29 (fltCells fltNil)).row 2 rfl (fltCells (redR x).1)).get 1 rfl); (exact rfl); (exact info_flt); simp only [Act.put, List.setIfInBounds_toArray, List.set_cons_zero, List.set_cons_succ]))
          go_ret
          exact ⟨by rw [HQ.out, HX.out]; first | rfl | (show Ending.returned (.bool (decide (x.byte < 256))) = _; simp [a4]), (((HS2.out).put 29 (fltCells fltNil)).row 2 rfl (fltCells (redR x).1)).old⟩
        case pos =>
          by_cases a2 : x.at_ ≤ 1099511627776
          case neg =>
            have HX : Hid ((rangesP d.pages.length d.writes x && formB x) = false) := by show _ = _; unfold rangesP; simp [a2]
            go_wp2_with (first | ((with_reducible refine wpList_alloc_ob 29 (fltCells fltNil) ?_ ?_); (exact alloc_flt); simp only [Act.put, List.setIfInBounds_toArray, List.set_cons_zero, List.set_cons_succ]) | ((with_reducible refine wpList_store_ob 29 (.tmp 5) (w3.heap.size) (fltCells (redR x).1) (fltCells fltNil) 29 ?_ ?_ ?_ ?_ ?_ ?_ ?_); (exact rfl); (exact rfl); (exact ((HS2.out).put 29 (fltCells fltNil)).get 2 rfl); (exact info_flt); (exact rfl); (exact (oneCell_flt _)); skip) | ((with_reducible refine wpList_load_ob_w 29 (.tmp 5) (w3.heap.size) (fltCells (redR x).1) 29 HUF.out ?_ ?_ ?_ ?_ ?_ ?_); (exact rfl); (exact rfl); (exact (((HS2.out).put 29 (fltCells fltNil)).row 2 rfl (fltCells (redR x).1)).get 2 rfl); (exact rfl); (exact info_flt); simp only [Act.put, List.setIfInBounds_toArray, List.set_cons_zero, List.set_cons_succ]) | ((with_reducible refine wpList_load_ob_w 29 (.tmp 3) B1 (fltCells x) 29 HUF.out ?_ ?_ ?_ ?_ ?_ ?_); (exact rfl); (exact rfl); (exact (((HS2.out).put 29 (fltCells fltNil)).row 2 rfl (fltCells (redR x).1)).get 1 rfl); (exact rfl); (exact info_flt); simp only [Act.put, List.setIfInBounds_toArray, List.set_cons_zero, List.set_cons_succ]))
            go_ret
            exact ⟨by rw [HQ.out, HX.out]; first | rfl | (show Ending.returned (.bool (decide (x.byte < 256))) = _; simp [a4]), (((HS2.out).put 29 (fltCells fltNil)).row 2 rfl (fltCells (redR x).1)).old⟩
          case pos =>
            go_wp2_with (first | ((with_reducible refine wpList_alloc_ob 29 (fltCells fltNil) ?_ ?_); (exact alloc_flt); simp only [Act.put, List.setIfInBounds_toArray, List.set_cons_zero, List.set_cons_succ]) | ((with_reducible refine wpList_store_ob 29 (.tmp 5) (w3.heap.size) (fltCells (redR x).1) (fltCells fltNil) 29 ?_ ?_ ?_ ?_ ?_ ?_ ?_); (exact rfl); (exact rfl); (exact ((HS2.out).put 29 (fltCells fltNil)).get 2 rfl); (exact info_flt); (exact rfl); (exact (oneCell_flt _)); skip) | ((with_reducible refine wpList_load_ob_w 29 (.tmp 5) (w3.heap.size) (fltCells (redR x).1) 29 HUF.out ?_ ?_ ?_ ?_ ?_ ?_); (exact rfl); (exact rfl); (exact (((HS2.out).put 29 (fltCells fltNil)).row 2 rfl (fltCells (redR x).1)).get 2 rfl); (exact rfl); (exact info_flt); simp only [Act.put, List.setIfInBounds_toArray, List.set_cons_zero, List.set_cons_succ]) | ((with_reducible refine wpList_load_ob_w 29 (.tmp 3) B1 (fltCells x) 29 HUF.out ?_ ?_ ?_ ?_ ?_ ?_); (exact rfl); (exact rfl); (exact (((HS2.out).put 29 (fltCells fltNil)).row 2 rfl (fltCells (redR x).1)).get 1 rfl); (exact rfl); (exact info_flt); simp only [Act.put, List.setIfInBounds_toArray, List.set_cons_zero, List.set_cons_succ]) | ((with_reducible refine wpList_load_ob_w 27 (.tmp 2) (w.heap.size) (dvCells (.slice pa d.pages.length pc) d (.slice ua d.unread.length uc) (.slice fa d.faults.length fc)) 27 HUD.out ?_ ?_ ?_ ?_ ?_ ?_); (exact rfl); (exact rfl); (exact (((HS2.out).put 29 (fltCells fltNil)).row 2 rfl (fltCells (redR x).1)).get 0 rfl); (exact rfl); (exact info_dv); simp only [Act.put, List.setIfInBounds_toArray, List.set_cons_zero, List.set_cons_succ]))
            refine (HI.out x.page _).mono ?_
            rintro e w4 ⟨rfl, hb⟩
            have HS3 : Hid (Hp w [.ob (w.heap.size) 27 (dvCells (.slice pa d.pages.length pc) d (.slice ua d.unread.length uc) (.slice fa d.faults.length fc)), .ob B1 29 (fltCells x), .ob (w3.heap.size) 29 (fltCells (redR x).1)] w4) := (((HS2.out).put 29 (fltCells fltNil)).row 2 rfl (fltCells (redR x).1)).calls hb
            clear hb
            clear HS2
            generalize w3.heap.size = B2 at *
            have b2 : w4.cell? ⟨B1, 2, none⟩ = some (.int .i64 x.page) := (HS3.out).at 1 rfl 2 rfl
            have b3 : w4.cell? ⟨B1, 3, none⟩ = some (.int .i64 x.target) := (HS3.out).at 1 rfl 3 rfl
            have b4 : w4.cell? ⟨B1, 4, none⟩ = some (.int .i64 x.byte) := (HS3.out).at 1 rfl 4 rfl
            cases i0 : inB d.pages.length x.page
            case false =>
              have HX : Hid ((rangesP d.pages.length d.writes x && formB x) = false) := by show _ = _; unfold rangesP; simp [i0]
              go_wp2_with fail
              go_ret
              exact ⟨by rw [HQ.out, HX.out]; first | rfl | (show Ending.returned (.bool (decide (x.byte < 256))) = _; simp [a4]), (HS3.out).old⟩
            case true =>
              go_wp2_with (first | ((with_reducible refine wpList_load_ob_w 27 (.tmp 2) (w.heap.size) (dvCells (.slice pa d.pages.length pc) d (.slice ua d.unread.length uc) (.slice fa d.faults.length fc)) 27 HUD.out ?_ ?_ ?_ ?_ ?_ ?_); (exact rfl); (exact rfl); (exact (HS3.out).get 0 rfl); (exact rfl); (exact info_dv); simp only [Act.put, List.setIfInBounds_toArray, List.set_cons_zero, List.set_cons_succ]))
              refine (HI.out x.target _).mono ?_
              rintro e w5 ⟨rfl, hb⟩
              have HS4 : Hid (Hp w [.ob (w.heap.size) 27 (dvCells (.slice pa d.pages.length pc) d (.slice ua d.unread.length uc) (.slice fa d.faults.length fc)), .ob B1 29 (fltCells x), .ob B2 29 (fltCells (redR x).1)] w5) := (HS3.out).calls hb
              clear hb
              clear HS3
              have b2 : w5.cell? ⟨B1, 2, none⟩ = some (.int .i64 x.page) := (HS4.out).at 1 rfl 2 rfl
              have b3 : w5.cell? ⟨B1, 3, none⟩ = some (.int .i64 x.target) := (HS4.out).at 1 rfl 3 rfl
              have b4 : w5.cell? ⟨B1, 4, none⟩ = some (.int .i64 x.byte) := (HS4.out).at 1 rfl 4 rfl
              cases i1 : inB d.pages.length x.target
              case false =>
                have HX : Hid ((rangesP d.pages.length d.writes x && formB x) = false) := by show _ = _; unfold rangesP; simp [i1]
                go_wp2_with fail
                go_ret
                exact ⟨by rw [HQ.out, HX.out]; first | rfl | (show Ending.returned (.bool (decide (x.byte < 256))) = _; simp [a4]), (HS4.out).old⟩
              case true =>
                by_cases a3 : 0 ≤ x.byte
                case neg =>
                  have HX : Hid ((rangesP d.pages.length d.writes x && formB x) = false) := by show _ = _; unfold rangesP; simp [a3]
                  go_wp2_with fail
                  go_ret
                  exact ⟨by rw [HQ.out, HX.out]; first | rfl | (show Ending.returned (.bool (decide (x.byte < 256))) = _; simp [a4]), (HS4.out).old⟩
                case pos =>
                  by_cases a4 : x.byte < 256
                  case neg =>
                    have HX : Hid ((rangesP d.pages.length d.writes x && formB x) = false) := by show _ = _; unfold rangesP; simp [a4]
                    go_wp2_with fail
                    go_ret
                    exact ⟨by rw [HQ.out, HX.out]; first | rfl | (show Ending.returned (.bool (decide (x.byte < 256))) = _; simp [a4]), (HS4.out).old⟩
                  case pos =>
                    have HX : Hid ((rangesP d.pages.length d.writes x && formB x) = true) := by show _ = _; rw [hform, Bool.and_true]; unfold rangesP; simp [a1, a2, i0, i1, a3, a4]
                    go_wp2_with fail
                    go_ret
                    exact ⟨by rw [HQ.out, HX.out]; first | rfl | (show Ending.returned (.bool (decide (x.byte < 256))) = _; simp [a4]), (HS4.out).old⟩
end Go.Proofs.Ythcjkbhkidijoaa
/- the program's check of the faults -/
namespace Go.Proofs.Ythcjkbhkidijoaa
open Go.RowKit
set_option maxRecDepth 20000
set_option linter.unusedSimpArgs false
set_option linter.unusedVariables false

theorem enters_vf : EntersF 69 := enters_of Try.func69 (by kernel_rfl) rfl
set_option maxHeartbeats 4000000 in
theorem vfFn {p u f : Value} {d : Dv} {R : List Rng} (B : Nat) (w : World) (h : DvRd p u f d R) (hR : RdIn w R) (hg : ∀ x ∈ d.faults, GoodFlt x) (hB : w.heap[B]? = some (.cells (dvCells p d u f).toArray 27 (0, 0))) :
    FltFn 69 #[.pointer (some ⟨B, 0, none⟩)] (fun x => !fltOkB d.pages.length d.writes x) d.faults w := by
  intro W x hx hb
  have HVF : Hid (∀ W', Below w.heap.size w W' → Calls Try.prog 54 #[.agg (dvCells p d u f).toArray, .agg (fltCells x).toArray] W' fun e w' => e = .returned (.bool (fltOkB d.pages.length d.writes x)) ∧ Below W'.heap.size W' w') := fun W' hb' => validFault_any x W' h (hR.below hb') (hg x hx)
  have hBlt : B < w.heap.size := (Array.getElem?_eq_some_iff.1 hB).1
  obtain ⟨fs, hud⟩ := under_dv
  have HUD := Lib.hid hud
  obtain ⟨fs2, huf⟩ := under_flt
  have HUF := Lib.hid huf
  have HB : Hid (∀ W', Below w.heap.size w W' → W'.heap[B]? = some (.cells (dvCells p d u f).toArray 27 (0, 0))) := fun W' hb' => (hb'.block B hBlt).trans hB
  have hSz : B < W.heap.size := Nat.lt_of_lt_of_le hBlt hb.size
  have HS0 : Hid (Hp W [.ob W.heap.size 29 (fltCells x)] (W.alloc (.cells (fltCells x).toArray 29))) := (Hp.start W).put 29 (fltCells x)
  have HBl : Hid (∀ W', Below W.heap.size W W' → Below w.heap.size w W') := fun W' hb' => hb.trans (hb'.mono hb.size)
  show Calls Try.prog 69 #[.agg (fltCells x).toArray, .pointer (some ⟨B, 0, none⟩)] W fun e w' => e = .returned (.bool (!fltOkB d.pages.length d.writes x)) ∧ Below W.heap.size W w'
  clear h hR hg hB hud huf hx hb hBlt hSz
  have hc := HVF.out _ (HBl.out _ HS0.out.old)
  clear HVF
  generalize fltOkB d.pages.length d.writes x = q at *
  go_enter Try.func69, Try.ntmps69
  go_wp2_with (first | ((with_reducible refine wpList_load_ob 27 (.tmp 1) B (dvCells p d u f) 27 HUD.out ?_ ?_ ?_ ?_ ?_); (exact rfl); (exact HB.out _ (HBl.out _ HS0.out.old)); (exact rfl); (exact info_dv); simp only [Act.put, List.setIfInBounds_toArray, List.set_cons_zero, List.set_cons_succ]) | ((with_reducible refine wpList_load_ob 29 (.tmp 2) W.heap.size (fltCells x) 29 HUF.out ?_ ?_ ?_ ?_ ?_); (exact rfl); (exact (HS0.out).get 0 rfl); (exact rfl); (exact info_flt); simp only [Act.put, List.setIfInBounds_toArray, List.set_cons_zero, List.set_cons_succ]))
  refine hc.mono ?_
  rintro e w2 ⟨rfl, hb⟩
  have HS1 : Hid (Hp W [.ob W.heap.size 29 (fltCells x)] w2) := HS0.out.calls hb
  clear hb hc
  cases q
  · go_wp2_with fail
    go_ret
    exact ⟨rfl, HS1.out.old⟩
  · go_wp2_with fail
    go_ret
    exact ⟨rfl, HS1.out.old⟩
set_option maxHeartbeats 4000000 in
theorem validFaults_any {p u f : Value} {d : Dv} {R : List Rng} (w : World) (h : DvRd p u f d R) (hR : RdIn w R) (hg : ∀ x ∈ d.faults, GoodFlt x) :
    Calls Try.prog 52 #[.agg (dvCells p d u f).toArray] w fun e w' => e = .returned (.bool (!decide (64 < (d.faults.length : Int)) && faultsB d)) ∧ Below w.heap.size w w' := by
  have HI : Hid (d.faults.length ≤ 64 → ∀ B W, Below w.heap.size w W → W.heap[B]? = some (.cells (dvCells p d u f).toArray 27 (0, 0)) → Calls Try.prog 62 #[f, .func (.func 69) #[] #[.pointer (some ⟨B, 0, none⟩)]] W fun e w' => e = .returned (.int .i64 (idxR (fun x => !fltOkB d.pages.length d.writes x) d.faults)) ∧ Below W.heap.size W w') :=
    fun hl B W hb hB => idxFlt_any _ _ _ d.faults f R W enters_vf (vfFn B W h (hR.below hb) hg hB) h.faults (hR.below hb) (by omega)
  have HAll : Hid (faultsB d = true → idxR (fun x => !fltOkB d.pages.length d.writes x) d.faults = -1) := fun h => idxR_none (by simpa [faultsB] using h)
  have HNo : Hid (faultsB d = false → 0 ≤ idxR (fun x => !fltOkB d.pages.length d.writes x) d.faults) := fun h => by
    unfold idxR
    cases hf : d.faults.findIdx? (fun x => !fltOkB d.pages.length d.writes x) with
    | none =>
      rw [List.findIdx?_eq_none_iff] at hf
      have : faultsB d = true := List.all_eq_true.2 (fun x hx => by simpa using hf x hx)
      rw [this] at h; cases h
    | some i => show (0 : Int) ≤ i; omega
  obtain ⟨pa, pc, rfl, hp1, hp3, hP2⟩ := h.pages.open hR
  obtain ⟨ua, uc, rfl, hu1, hu3, hU2⟩ := h.unread.open hR
  obtain ⟨fa, fc, rfl, hf1, hf3, hF2⟩ := h.faults.open hR
  clear h hR hg hP2 hU2 hF2 hp1 hp3 hu1 hu3 hf1 hf3
  have h1 := (Hp.start w).put 27 (dvCells (.slice pa d.pages.length pc) d (.slice ua d.unread.length uc) (.slice fa d.faults.length fc))
  have HS0 : Hid (Hp w [.ob w.heap.size 27 (dvCells (.slice pa d.pages.length pc) d (.slice ua d.unread.length uc) (.slice fa d.faults.length fc))] (w.alloc (.cells (dvCells (.slice pa d.pages.length pc) d (.slice ua d.unread.length uc) (.slice fa d.faults.length fc)).toArray 27))) := h1
  clear h1
  have b4 : (w.alloc (.cells (dvCells (.slice pa d.pages.length pc) d (.slice ua d.unread.length uc) (.slice fa d.faults.length fc)).toArray 27)).cell? ⟨w.heap.size, 4, none⟩ = some (.slice fa d.faults.length fc) := HS0.out.at 0 rfl 4 rfl
  by_cases c1 : 64 < (d.faults.length : Int)
  · have HX := Lib.hid c1
    go_enter Try.func52, Try.ntmps52
    go_wp2_with fail
    go_ret
    exact ⟨ret_bool (by simp [HX.out]), HS0.out.old⟩
  · have HX := Lib.hid c1
    have hcall := HI.out (by omega) w.heap.size _ HS0.out.old (HS0.out.get 0 rfl)
    clear HI
    go_enter Try.func52, Try.ntmps52
    go_wp2_with (first | (go_at_call 62; refine hcall.mono ?_; rintro e w2 ⟨rfl, hb⟩) | go_in)
    all_goals (
      have HS1 := Lib.hid (HS0.out.calls hb)
      go_ret
      refine ⟨ret_bool ?_, HS1.out.old⟩
      have e1 := HX.out
      cases hall : faultsB d
      · have := HNo.out hall
        first | (simp [*]; done) | (exfalso; omega)
      · have := HAll.out hall
        first | (simp [*]; done) | (exfalso; omega) | simp_all)
end Go.Proofs.Ythcjkbhkidijoaa
/- the program's Valid and reach -/
namespace Go.Proofs.Ythcjkbhkidijoaa
open Go.RowKit
set_option maxRecDepth 20000
set_option linter.unusedSimpArgs false
set_option linter.unusedVariables false

def okP (d : Dv) : Bool :=
  (!decide ((d.pages.length : Int) < 1) && (!decide (64 < (d.pages.length : Int)) && all256 d.pages)) && (decide (0 ≤ d.writes) && (decide (d.writes ≤ 1099511627776) && (unreadB d && (!decide (64 < (d.faults.length : Int)) && faultsB d))))
theorem okP_eq (d : Dv) : okP d = dvOkB d := by
  unfold okP dvOkB numsB
  rw [show all256 d.pages = pagesB d from rfl, Bool.eq_iff_iff]
  simp only [Bool.and_eq_true, Bool.not_eq_true', decide_eq_true_eq, decide_eq_false_iff_not]
  constructor
  · rintro ⟨⟨h1, h2, h3⟩, h4, h5, h6, h7, h8⟩
    exact ⟨⟨h1, h2, by omega, by omega, h7⟩, h3, h6, h8⟩
  · rintro ⟨⟨h1, h2, h4, h5, h7⟩, h3, h6, h8⟩
    exact ⟨⟨h1, h2, h3⟩, by omega, by omega, h6, h7, h8⟩
set_option maxHeartbeats 8000000 in
theorem valid_any {p u f : Value} {d : Dv} {R : List Rng} (w : World) (h : DvRd p u f d R) (hR : RdIn w R) (hg : GoodDv d) :
    Calls Try.prog 22 #[.agg (dvCells p d u f).toArray] w fun e w' => e = .returned (.bool (dvOkB d)) ∧ Below w.heap.size w w' := by
  rw [← okP_eq]
  have HPg : Hid (∀ W, Below w.heap.size w W → Calls Try.prog 50 #[p] W fun e w' => e = .returned (.bool (!decide ((d.pages.length : Int) < 1) && (!decide (64 < (d.pages.length : Int)) && all256 d.pages))) ∧ Below W.heap.size W w') := fun W hb => validPages_any d.pages p R W h.pages (hR.below hb) hg.pages
  have HUn : Hid (∀ W, Below w.heap.size w W → Calls Try.prog 51 #[.agg (dvCells p d u f).toArray] W fun e w' => e = .returned (.bool (unreadB d)) ∧ Below W.heap.size W w') := fun W hb => validUn_any W h (hR.below hb) hg.unread
  have HFa : Hid (∀ W, Below w.heap.size w W → Calls Try.prog 52 #[.agg (dvCells p d u f).toArray] W fun e w' => e = .returned (.bool (!decide (64 < (d.faults.length : Int)) && faultsB d)) ∧ Below W.heap.size W w') := fun W hb => validFaults_any W h (hR.below hb) hg.faults
  have HOk : Hid (okP d = ((!decide ((d.pages.length : Int) < 1) && (!decide (64 < (d.pages.length : Int)) && all256 d.pages)) && (decide (0 ≤ d.writes) && (decide (d.writes ≤ 1099511627776) && (unreadB d && (!decide (64 < (d.faults.length : Int)) && faultsB d)))))) := rfl
  obtain ⟨pa, pc, rfl, hp1, hp3, hP2⟩ := h.pages.open hR
  obtain ⟨ua, uc, rfl, hu1, hu3, hU2⟩ := h.unread.open hR
  obtain ⟨fa, fc, rfl, hf1, hf3, hF2⟩ := h.faults.open hR
  obtain ⟨fs, hud⟩ := under_dv
  have HUD := Lib.hid hud
  obtain ⟨fs2, huf⟩ := under_flt
  have HUF := Lib.hid huf
  clear hud huf
  clear h hR hg hP2 hU2 hF2 hp1 hp3 hu1 hu3 hf1 hf3
  have h1 := (Hp.start w).put 27 (dvCells (.slice pa d.pages.length pc) d (.slice ua d.unread.length uc) (.slice fa d.faults.length fc))
  have HS0 : Hid (Hp w [.ob w.heap.size 27 (dvCells (.slice pa d.pages.length pc) d (.slice ua d.unread.length uc) (.slice fa d.faults.length fc))] (w.alloc (.cells (dvCells (.slice pa d.pages.length pc) d (.slice ua d.unread.length uc) (.slice fa d.faults.length fc)).toArray 27))) := h1
  clear h1
  have b0 : (w.alloc (.cells (dvCells (.slice pa d.pages.length pc) d (.slice ua d.unread.length uc) (.slice fa d.faults.length fc)).toArray 27)).cell? ⟨w.heap.size, 0, none⟩ = some (.slice pa d.pages.length pc) := HS0.out.at 0 rfl 0 rfl
  generalize (!decide ((d.pages.length : Int) < 1) && (!decide (64 < (d.pages.length : Int)) && all256 d.pages)) = q1 at *
  generalize (!decide (64 < (d.faults.length : Int)) && faultsB d) = q3 at *
  generalize unreadB d = q2 at *
  go_enter Try.func22, Try.ntmps22
  go_wp2_with fail
  refine (HPg.out _ (HS0.out).old).mono ?_
  rintro e w3 ⟨rfl, hb⟩
  have HS2 : Hid (Hp w [.ob (w.heap.size) 27 (dvCells (.slice pa d.pages.length pc) d (.slice ua d.unread.length uc) (.slice fa d.faults.length fc))] w3) := (HS0.out).calls hb
  clear hb
  clear HS0
  clear HPg
  clear b0
  have b1 : w3.cell? ⟨w.heap.size, 1, none⟩ = some (.int .i64 d.writes) := (HS2.out).at 0 rfl 1 rfl
  cases q1
  case false =>
    have HX : Hid (okP d = false) := by show _ = _; rw [HOk.out]; simp
    go_wp2_with fail
    go_ret
    exact ⟨by rw [HX.out]; rfl, (HS2.out).old⟩
  case true =>
    by_cases a1 : 0 ≤ d.writes
    case neg =>
      have HX : Hid (okP d = false) := by show _ = _; rw [HOk.out]; simp [a1]
      go_wp2_with fail
      go_ret
      exact ⟨by rw [HX.out]; rfl, (HS2.out).old⟩
    case pos =>
      by_cases a2 : d.writes ≤ 1099511627776
      case neg =>
        have HX : Hid (okP d = false) := by show _ = _; rw [HOk.out]; simp [a1, a2]
        go_wp2_with fail
        go_ret
        exact ⟨by rw [HX.out]; rfl, (HS2.out).old⟩
      case pos =>
        go_wp2_with (first | ((with_reducible refine wpList_load_ob_w 27 (.tmp 1) (w.heap.size) (dvCells (.slice pa d.pages.length pc) d (.slice ua d.unread.length uc) (.slice fa d.faults.length fc)) 27 HUD.out ?_ ?_ ?_ ?_ ?_ ?_); (exact rfl); (exact rfl); (exact (HS2.out).get 0 rfl); (exact rfl); (exact info_dv); simp only [Act.put, List.setIfInBounds_toArray, List.set_cons_zero, List.set_cons_succ]))
        refine (HUn.out _ (HS2.out).old).mono ?_
        rintro e w4 ⟨rfl, hb⟩
        have HS3 : Hid (Hp w [.ob (w.heap.size) 27 (dvCells (.slice pa d.pages.length pc) d (.slice ua d.unread.length uc) (.slice fa d.faults.length fc))] w4) := (HS2.out).calls hb
        clear hb
        clear HS2
        clear HUn
        cases q2
        case false =>
          have HX : Hid (okP d = false) := by show _ = _; rw [HOk.out]; simp [a1, a2]
          go_wp2_with fail
          go_ret
          exact ⟨by rw [HX.out]; rfl, (HS3.out).old⟩
        case true =>
          go_wp2_with (first | ((with_reducible refine wpList_load_ob_w 27 (.tmp 1) (w.heap.size) (dvCells (.slice pa d.pages.length pc) d (.slice ua d.unread.length uc) (.slice fa d.faults.length fc)) 27 HUD.out ?_ ?_ ?_ ?_ ?_ ?_); (exact rfl); (exact rfl); (exact (HS3.out).get 0 rfl); (exact rfl); (exact info_dv); simp only [Act.put, List.setIfInBounds_toArray, List.set_cons_zero, List.set_cons_succ]))
          refine (HFa.out _ (HS3.out).old).mono ?_
          rintro e w5 ⟨rfl, hb⟩
          have HS4 : Hid (Hp w [.ob (w.heap.size) 27 (dvCells (.slice pa d.pages.length pc) d (.slice ua d.unread.length uc) (.slice fa d.faults.length fc))] w5) := (HS3.out).calls hb
          clear hb
          clear HS3
          clear HFa
          cases q3
          case false =>
            have HX : Hid (okP d = false) := by show _ = _; rw [HOk.out]; simp [a1, a2]
            go_wp2_with fail
            go_ret
            exact ⟨by rw [HX.out]; rfl, (HS4.out).old⟩
          case true =>
            have HX : Hid (okP d = true) := by show _ = _; rw [HOk.out]; simp [a1, a2]
            go_wp2_with fail
            go_ret
            exact ⟨by rw [HX.out]; rfl, (HS4.out).old⟩
set_option maxHeartbeats 8000000 in
theorem reach_any {p u f : Value} {d : Dv} {R : List Rng} (page : Int) (w : World) (h : DvRd p u f d R) (hR : RdIn w R) (hg : GoodDv d) :
    Calls Try.prog 38 #[.agg (dvCells p d u f).toArray, .int .i64 page] w fun e w' => e = .returned (.int .i64 (usableR d page)) ∧ Below w.heap.size w w' := by
  have HV : Hid (∀ W, Below w.heap.size w W → Calls Try.prog 22 #[.agg (dvCells p d u f).toArray] W fun e w' => e = .returned (.bool (dvOkB d)) ∧ Below W.heap.size W w') := fun W hb => valid_any W h (hR.below hb) hg
  have HI : Hid (∀ W, Calls Try.prog 59 #[.agg (dvCells p d u f).toArray, .int .i64 page] W fun e w' => e = .returned (.bool (inB d.pages.length page)) ∧ Below W.heap.size W w') := fun W => isPage_dv page W h
  have HUs : Hid (∀ n, usableR d page = n → Ending.returned (Value.int .i64 n) = .returned (.int .i64 (usableR d page))) := fun n hn => by rw [hn]
  have HUq : Hid (usableR d page = if dvOkB d = false then 15 else if d.dead = true then 10 else if inB d.pages.length page = false then 1 else 0) := by
    show _ = _
    unfold usableR inB
    split
    · rfl
    · split
      · rfl
      · by_cases h1 : page < 0
        · rw [if_pos (.inl h1), if_pos (by simp [h1])]
        · by_cases h2 : (d.pages.length : Int) ≤ page
          · rw [if_pos (.inr h2), if_pos (by simp [h2])]
          · rw [if_neg (by omega), if_neg (by simp [h1, h2])]
  obtain ⟨pa, pc, rfl, hp1, hp3, hP2⟩ := h.pages.open hR
  obtain ⟨ua, uc, rfl, hu1, hu3, hU2⟩ := h.unread.open hR
  obtain ⟨fa, fc, rfl, hf1, hf3, hF2⟩ := h.faults.open hR
  obtain ⟨fs, hud⟩ := under_dv
  have HUD := Lib.hid hud
  obtain ⟨fs2, huf⟩ := under_flt
  have HUF := Lib.hid huf
  clear hud huf
  clear h hR hg hP2 hU2 hF2 hp1 hp3 hu1 hu3 hf1 hf3
  have h1 := (Hp.start w).put 27 (dvCells (.slice pa d.pages.length pc) d (.slice ua d.unread.length uc) (.slice fa d.faults.length fc))
  have HS0 : Hid (Hp w [.ob w.heap.size 27 (dvCells (.slice pa d.pages.length pc) d (.slice ua d.unread.length uc) (.slice fa d.faults.length fc))] (w.alloc (.cells (dvCells (.slice pa d.pages.length pc) d (.slice ua d.unread.length uc) (.slice fa d.faults.length fc)).toArray 27))) := h1
  clear h1
  generalize dvOkB d = q1 at *
  generalize inB d.pages.length page = q2 at *
  go_enter Try.func38, Try.ntmps38
  go_wp2_with (first | ((with_reducible refine wpList_load_ob 27 (.tmp 2) (w.heap.size) (dvCells (.slice pa d.pages.length pc) d (.slice ua d.unread.length uc) (.slice fa d.faults.length fc)) 27 HUD.out ?_ ?_ ?_ ?_ ?_); (exact rfl); (exact (HS0.out).get 0 rfl); (exact rfl); (exact info_dv); simp only [Act.put, List.setIfInBounds_toArray, List.set_cons_zero, List.set_cons_succ]))
  refine (HV.out _ (HS0.out).old).mono ?_
  rintro e w3 ⟨rfl, hb⟩
  have HS2 : Hid (Hp w [.ob (w.heap.size) 27 (dvCells (.slice pa d.pages.length pc) d (.slice ua d.unread.length uc) (.slice fa d.faults.length fc))] w3) := (HS0.out).calls hb
  clear hb
  clear HS0
  clear HV
  have b3 : w3.cell? ⟨w.heap.size, 3, none⟩ = some (.bool d.dead) := (HS2.out).at 0 rfl 3 rfl
  cases q1
  case false =>
    have HX : Hid (usableR d page = 15) := by show _ = _; rw [HUq.out]; simp
    go_wp2_with fail
    go_ret
    exact ⟨HUs.out _ HX.out, (HS2.out).old⟩
  case true =>
    cases hd : d.dead
    case true =>
      rw [hd] at b3
      have HD : Hid (d.dead = true) := hd
      clear hd
      have HX : Hid (usableR d page = 10) := by show _ = _; rw [HUq.out]; simp [HD.out]
      go_wp2_with fail
      go_ret
      exact ⟨HUs.out _ HX.out, (HS2.out).old⟩
    case false =>
      rw [hd] at b3
      have HD : Hid (d.dead = false) := hd
      clear hd
      go_wp2_with (first | ((with_reducible refine wpList_load_ob 27 (.tmp 2) (w.heap.size) (dvCells (.slice pa d.pages.length pc) d (.slice ua d.unread.length uc) (.slice fa d.faults.length fc)) 27 HUD.out ?_ ?_ ?_ ?_ ?_); (exact rfl); (exact (HS2.out).get 0 rfl); (exact rfl); (exact info_dv); simp only [Act.put, List.setIfInBounds_toArray, List.set_cons_zero, List.set_cons_succ]))
      refine (HI.out _).mono ?_
      rintro e w4 ⟨rfl, hb⟩
      have HS3 : Hid (Hp w [.ob (w.heap.size) 27 (dvCells (.slice pa d.pages.length pc) d (.slice ua d.unread.length uc) (.slice fa d.faults.length fc))] w4) := (HS2.out).calls hb
      clear hb
      clear HS2
      clear HI
      cases q2
      case false =>
        have HX : Hid (usableR d page = 1) := by show _ = _; rw [HUq.out]; simp [HD.out]
        go_wp2_with fail
        go_ret
        exact ⟨HUs.out _ HX.out, (HS3.out).old⟩
      case true =>
        have HX : Hid (usableR d page = 0) := by show _ = _; rw [HUq.out]; simp [HD.out]
        go_wp2_with fail
        go_ret
        exact ⟨HUs.out _ HX.out, (HS3.out).old⟩
end Go.Proofs.Ythcjkbhkidijoaa
/- the program's Read -/
namespace Go.Proofs.Ythcjkbhkidijoaa
open Go.RowKit
set_option maxRecDepth 20000
set_option linter.unusedSimpArgs false
set_option linter.unusedVariables false

set_option maxHeartbeats 4000000 in
theorem index_any (l : List Int) (n : Int) (v : Value) (R : List Rng) (w : World) (hv : SlRd v 1 l.length (intRow l) R) (hR : RdIn w R) :
    Calls Try.prog 73 #[v, .int .i64 n] w fun e w' => ∃ r : Int, e = .returned (.int .i64 r) ∧ IdxIs (!hasB l n) r ∧ Below w.heap.size w w' := by
  obtain ⟨a, cap, rfl, hnc, hcm, hg⟩ := hv.open hR
  have HC : Hid (l.length ≤ cap ∧ cap ≤ maxLen) := ⟨hnc, hcm⟩
  clear hv hR hnc hcm
  go_enter Try.func73, Try.ntmps73
  go_wp2_with fail
  go_loopw [8] (fun i wr => ∃ k : Nat, k ≤ l.length ∧ i = .int .i64 k ∧ hasB (l.take k) n = false ∧ Below w.heap.size w wr) (fun i _ => l.length - (intOf i).toNat)
  case atStart => exact ⟨0, by omega, rfl, rfl, Below.refl _ _⟩
  case round =>
    obtain ⟨k, hk, rfl, hh, hb⟩ := hrel
    have HB := Lib.hid hb
    have HH := Lib.hid hh
    clear hb hh
    by_cases hlt : k < l.length
    · obtain ⟨g, off, rfl, hr⟩ := hg.out (by omega)
      have hc : wr.cell? ⟨g, off + k, none⟩ = some (.int .i64 l[k]) := hr wr HB.out k _ (intRow_at l k hlt)
      have hki : (k : Int) < (l.length : Int) := by omega
      have hk0 : (0 : Int) ≤ (k : Int) := by omega
      have hkm : (k : Int) < 9223372036854775807 := by have := HC.out; unfold maxLen at this; omega
      have HLt := Lib.hid hlt
      by_cases hx : l[k] = n
      · have hxb : (n == l[k]) = true := by rw [hx]; simp
        have HX : Hid (hasB l n = true) := hasB_true hlt hx
        clear hr hx hg
        generalize l[k] = y at *
        go_wp2_with fail
        go_ret
        exact ⟨(k : Int), rfl, by rw [HX.out]; show (0 : Int) ≤ k; omega, HB.out⟩
      · have hxb : (n == l[k]) = false := by rw [beq_eq_false_iff_ne]; exact fun h => hx h.symm
        have HX : Hid (hasB (l.take (k + 1)) n = false) := by show _ = _; rw [hasB_take hlt, HH.out, Bool.false_or]; exact decide_eq_false hx
        clear hr hx hg
        generalize l[k] = y at *
        go_wp2_with fail
        go_roundw
        case rel => exact ⟨k + 1, by omega, by go_num, HX.out, HB.out⟩
        case measure => simp [intOf]; omega
    · obtain rfl : k = l.length := by omega
      rw [List.take_length] at HH
      go_wp2_with fail
      go_ret
      exact ⟨-1, rfl, by rw [HH.out]; rfl, HB.out⟩
set_option maxHeartbeats 4000000 in
theorem contains_any (l : List Int) (n : Int) (v : Value) (R : List Rng) (w : World) (hv : SlRd v 1 l.length (intRow l) R) (hR : RdIn w R) :
    Calls Try.prog 56 #[v, .int .i64 n] w fun e w' => e = .returned (.bool (hasB l n)) ∧ Below w.heap.size w w' := by
  have hc := index_any l n v R w hv hR
  clear hv hR
  generalize hasB l n = q at *
  go_enter Try.func56, Try.ntmps56
  go_wp2_with fail
  refine hc.mono ?_
  rintro e w2 ⟨r, rfl, hr, hb⟩
  clear hc
  cases q
  · have h0 : (0 : Int) ≤ -1 → False := by decide
    have hr' : r = -1 := hr
    subst hr'
    clear hr
    go_wp2_with fail
    go_ret
    exact ⟨rfl, hb⟩
  · have hr' : 0 ≤ r := hr
    clear hr
    go_wp2_with fail
    go_ret
    exact ⟨ret_bool (by simp [hr']), hb⟩
set_option maxHeartbeats 4000000 in
theorem read_any {p u f : Value} {d : Dv} {R : List Rng} (page : Int) (w : World) (h : DvRd p u f d R) (hR : RdIn w R) (hg : GoodDv d) :
    Calls Try.prog 31 #[.agg (dvCells p d u f).toArray, .int .i64 page] w fun e w' => e = .returned (.tuple #[.string (readR d page).1, .int .i64 (readR d page).2]) ∧ Below w.heap.size w w' := by
  have HV : Hid (∀ W, Below w.heap.size w W → Calls Try.prog 38 #[.agg (dvCells p d u f).toArray, .int .i64 page] W fun e w' => e = .returned (.int .i64 (usableR d page)) ∧ Below W.heap.size W w') := fun W hb => reach_any page W h (hR.below hb) hg
  have HHas : Hid (∀ W, Below w.heap.size w W → Calls Try.prog 56 #[u, .int .i64 page] W fun e w' => e = .returned (.bool (hasB d.unread page)) ∧ Below W.heap.size W w') := fun W hb => contains_any d.unread page u R W h.unread (hR.below hb)
  obtain ⟨fs, hud⟩ := under_dv
  have HUD := Lib.hid hud
  clear hud
  obtain ⟨pa, pc, rfl, p1, _, p2⟩ := h.pages.open hR
  obtain ⟨ua, uc, rfl, u1, _, u2⟩ := h.unread.open hR
  obtain ⟨fa, fc, rfl, f1, _, f2⟩ := h.faults.open hR
  clear h hR hg u2 f2
  have h1 := (Hp.start w).put 27 (dvCells (.slice pa d.pages.length pc) d (.slice ua d.unread.length uc) (.slice fa d.faults.length fc))
  have HS0 : Hid (Hp w [.ob w.heap.size 27 (dvCells (.slice pa d.pages.length pc) d (.slice ua d.unread.length uc) (.slice fa d.faults.length fc))] (w.alloc (.cells (dvCells (.slice pa d.pages.length pc) d (.slice ua d.unread.length uc) (.slice fa d.faults.length fc)).toArray 27))) := h1
  clear h1
  have HUs : Hid (∀ s n, readR d page = (s, n) → Ending.returned (Value.tuple #[.string s, .int .i64 n]) = .returned (.tuple #[.string (readR d page).1, .int .i64 (readR d page).2])) := fun s n hn => by rw [hn]
  go_enter Try.func31, Try.ntmps31
  go_wp2_with (first | ((with_reducible refine wpList_load_ob 27 (.tmp 2) (w.heap.size) (dvCells (.slice pa d.pages.length pc) d (.slice ua d.unread.length uc) (.slice fa d.faults.length fc)) 27 HUD.out ?_ ?_ ?_ ?_ ?_); (exact rfl); (exact (HS0.out).get 0 rfl); (exact rfl); (exact info_dv); simp only [Act.put, List.setIfInBounds_toArray, List.set_cons_zero, List.set_cons_succ]))
  refine (HV.out _ HS0.out.old).mono ?_
  rintro e w3 ⟨rfl, hb⟩
  have HS2 : Hid (Hp w [.ob (w.heap.size) 27 (dvCells (.slice pa d.pages.length pc) d (.slice ua d.unread.length uc) (.slice fa d.faults.length fc))] w3) := (HS0.out).calls hb
  clear hb
  clear HS0
  clear HV
  by_cases h0 : usableR d page = 0
  case neg =>
    have HX : Hid (¬ usableR d page = 0) := h0
    have hq : (usableR d page != 0) = true := by rw [bne_iff_ne]; exact h0
    go_wp2_with fail
    exact bodyPost_ret (v := .tuple #[.string ⟨#[]⟩, .int .i64 (usableR d page)]) (by simp [results, Try.results31, go_sem]) rfl ⟨HUs.out _ _ (by unfold readR; rw [if_pos HX.out]), HS2.out.old⟩
  case pos =>
    obtain ⟨_, _, g0, g1⟩ := usable_ok h0
    have HX : Hid (usableR d page = 0) := h0
    have hq : (usableR d page != 0) = false := by rw [h0]; rfl
    obtain ⟨k, rfl⟩ := Int.eq_ofNat_of_zero_le g0
    have hkn : k < d.pages.length := by omega
    have b2 : w3.cell? ⟨w.heap.size, 2, none⟩ = some (.slice ua d.unread.length uc) := HS2.out.at 0 rfl 2 rfl
    have HKn := Lib.hid hkn
    go_wp2_with fail
    refine (HHas.out _ HS2.out.old).mono ?_
    rintro e w4 ⟨rfl, hb⟩
    have HS3 : Hid (Hp w [.ob (w.heap.size) 27 (dvCells (.slice pa d.pages.length pc) d (.slice ua d.unread.length uc) (.slice fa d.faults.length fc))] w4) := (HS2.out).calls hb
    clear hb
    clear HS2
    clear HHas
    cases hh : hasB d.unread (k : Int)
    case true =>
      have HH : Hid (hasB d.unread (k : Int) = true) := hh
      go_wp2_with fail
      exact bodyPost_ret (v := .tuple #[.string ⟨#[]⟩, .int .i64 11]) (by simp [results, Try.results31, go_sem]) rfl ⟨HUs.out _ _ (by unfold readR; rw [if_neg (by rw [HX.out]; simp), if_pos HH.out]), HS3.out.old⟩
    case false =>
      have HH : Hid (¬ hasB d.unread (k : Int) = true) := by show ¬ _; rw [hh]; decide
      obtain ⟨g, off, rfl, hr⟩ := p2.out (by omega)
      obtain ⟨y, hy⟩ : ∃ y, d.pages[k] = y := ⟨_, rfl⟩
      have HYd : Hid (d.pages.getD (Int.toNat (k : Int)) ⟨#[]⟩ = y) := by show _ = _; rw [Int.toNat_natCast, List.getD_eq_getElem?_getD, List.getElem?_eq_getElem hkn]; exact hy
      have hcell : w4.cell? ⟨g, off + k, none⟩ = some (.string y) := by rw [← hy]; exact hr _ HS3.out.old k _ (strRow_at d.pages k hkn)
      have b0 : w4.cell? ⟨w.heap.size, 0, none⟩ = some (.slice (some ⟨g, off, none⟩) d.pages.length pc) := HS3.out.at 0 rfl 0 rfl
      clear hr hy
      go_wp2_with fail
      exact bodyPost_ret (v := .tuple #[.string y, .int .i64 0]) (by simp [results, Try.results31, go_sem]) rfl ⟨HUs.out _ _ (by unfold readR; rw [if_neg (by rw [HX.out]; simp), if_neg HH.out, HYd.out]), HS3.out.old⟩
end Go.Proofs.Ythcjkbhkidijoaa
/- the library's DeleteFunc over numbers, by one that equals a number in memory -/
namespace Go.Proofs.Ythcjkbhkidijoaa
open Go.RowKit
set_option maxRecDepth 20000
set_option linter.unusedSimpArgs false
set_option linter.unusedVariables false

theorem zeroV_int (W : World) : (zeroValue 3).run Try.prog W = .ok (.int .i64 0) W := by kernel_rfl
theorem one_intl (x : Int) : ∀ u ∈ encI x, u.oneCell' = true := by
  intro u hu
  obtain rfl := List.mem_singleton.1 hu
  rfl
theorem enters_put : EntersF 72 := enters_of Try.func72 (by kernel_rfl) rfl
/-- the program's test: is it the number in that variable? -/
theorem putFn (n x : Int) (B : Nat) (W : World) (hc : W.cell? ⟨B, 0, none⟩ = some (.int .i64 n)) :
    Calls Try.prog 72 #[.int .i64 x, .pointer (some ⟨B, 0, none⟩)] W fun e w' => e = .returned (.bool (decide (x = n))) ∧ w' = W := by
  by_cases h : x = n
  · have h1 : (x == n) = true := by simp [h]
    have HD : Hid (decide (x = n) = true) := decide_eq_true h
    clear h
    go_enter Try.func72, Try.ntmps72
    go_wp2
    go_ret
    exact ⟨by rw [HD.out]; rfl, rfl⟩
  · have h1 : (x == n) = false := by rw [beq_eq_false_iff_ne]; exact h
    have HD : Hid (decide (x = n) = false) := decide_eq_false h
    clear h
    go_enter Try.func72, Try.ntmps72
    go_wp2
    go_ret
    exact ⟨by rw [HD.out]; rfl, rfl⟩
set_option maxHeartbeats 4000000 in
theorem idxInt_any (n : Int) (B : Nat) (l : List Int) (v : Value) (R : List Rng) (w : World) (hB : B < w.heap.size) (hc : w.cell? ⟨B, 0, none⟩ = some (.int .i64 n)) (hv : SlRd v 1 l.length (intRow l) R) (hR : RdIn w R) (hl : l.length ≤ 1000) :
    Calls Try.prog 80 #[v, .func (.func 72) #[] #[.pointer (some ⟨B, 0, none⟩)]] w fun e w' => e = .returned (.int .i64 (idxR (fun x => decide (x = n)) l)) ∧ Below w.heap.size w w' := by
  obtain ⟨a, cap, rfl, hnc, hcm, hg⟩ := hv.open hR
  have HC : Hid (l.length ≤ cap ∧ cap ≤ maxLen) := ⟨hnc, hcm⟩
  have HL := Lib.hid hl
  have HCell : Hid (∀ W, Below w.heap.size w W → W.cell? ⟨B, 0, none⟩ = some (.int .i64 n)) := fun W hb => (hb.cell (p := ⟨B, 0, none⟩) hB).trans hc
  have eg := enters_put
  clear hv hR hnc hcm hl hB hc
  unfold EntersF at eg
  go_enter Try.func80, Try.ntmps80
  go_wp2_with fail
  go_loopw [8] (fun i wr => ∃ k : Nat, k ≤ l.length ∧ i = .int .i64 k ∧ (l.take k).all (fun x => !decide (x = n)) = true ∧ Below w.heap.size w wr) (fun i _ => l.length - (intOf i).toNat)
  case atStart => exact ⟨0, by omega, rfl, rfl, Below.refl _ _⟩
  case round =>
    obtain ⟨k, hk, rfl, hh, hb⟩ := hrel
    have HB := Lib.hid hb
    have HH := Lib.hid hh
    clear hb hh
    by_cases hlt : k < l.length
    · obtain ⟨b, off, rfl, hr⟩ := hg.out (by omega)
      obtain ⟨x, hx⟩ : ∃ x, l[k] = x := ⟨_, rfl⟩
      have hcell : wr.cell? ⟨b, off + k, none⟩ = some (.int .i64 x) := by rw [← hx]; exact hr wr HB.out k _ (intRow_at l k hlt)
      have hki : (k : Int) < (l.length : Int) := by omega
      have hk0 : (0 : Int) ≤ (k : Int) := by omega
      have hkm : (k : Int) < 1001 := by have := HL.out; omega
      have hcall := putFn n x B wr (HCell.out wr HB.out)
      have HY : Hid (decide (x = n) = true → idxR (fun x => decide (x = n)) l = (k : Int)) := fun h => idxR_some hlt HH.out (by rw [hx]; exact h)
      have HN : Hid (decide (x = n) = false → (l.take (k + 1)).all (fun x => !decide (x = n)) = true) := fun h => all_take (f := fun x => !decide (x = n)) hlt HH.out (by rw [hx, h]; rfl)
      clear hr hx hg
      obtain ⟨q, hq⟩ : ∃ q, decide (x = n) = q := ⟨_, rfl⟩
      rw [hq] at hcall
      have HQ := Lib.hid hq
      clear hq
      cases q
      · have HX2 := Lib.hid (HN.out HQ.out)
        clear HY HN
        go_wp2_with fail
        refine hcall.mono ?_
        rintro e w2 ⟨rfl, rfl⟩
        go_wp2_with fail
        go_roundw
        case rel => exact ⟨k + 1, by omega, by go_num, HX2.out, HB.out⟩
        case measure => simp [intOf]; omega
      · have HX := Lib.hid (HY.out HQ.out)
        clear HY HN
        go_wp2_with fail
        refine hcall.mono ?_
        rintro e w2 ⟨rfl, rfl⟩
        go_wp2_with fail
        go_ret
        exact ⟨by rw [HX.out]; rfl, HB.out⟩
    · obtain rfl : k = l.length := by omega
      rw [List.take_length] at HH
      have HX := Lib.hid (idxR_none HH.out)
      go_wp2_with fail
      go_ret
      exact ⟨by rw [HX.out]; rfl, HB.out⟩
set_option maxHeartbeats 8000000 in
theorem delInt_row (n : Int) (B : Nat) (l : List Int) (g cap : Nat) (rest : List Value) (w : World) (hBg : B ≠ g) (hc : w.cell? ⟨B, 0, none⟩ = some (.int .i64 n)) (hl : l.length ≤ 1000) (hcap : l.length ≤ cap) (hcm : cap ≤ maxLen)
    (hg : w.heap[g]? = some (.cells (encRow encI l ++ rest).toArray 3 (0, 0))) :
    Calls Try.prog 71 #[.slice (some ⟨g, 0, none⟩) l.length cap, .func (.func 72) #[] #[.pointer (some ⟨B, 0, none⟩)]] w fun e w' => e = .returned (.slice (some ⟨g, 0, none⟩) (l.filter fun x => !decide (x = n)).length cap) ∧
      (∃ m : List Int, (l.filter (fun x => !decide (x = n)) ++ m).length = l.length ∧ w'.heap[g]? = some (.cells (encRow encI (l.filter (fun x => !decide (x = n)) ++ m) ++ rest).toArray 3 (0, 0))) ∧ w.grownBy w' (some g) := by
  have hlt0 : g < w.heap.size := (Array.getElem?_eq_some_iff.1 hg).1
  have hltB : B < w.heap.size := World.block_lt_of_cell? w _ hc
  have HRow : Hid (∀ (W : World) (ys : List Int), W.heap[g]? = some (.cells (encRow encI ys ++ rest).toArray 3 (0, 0)) → ∀ k (h : k < ys.length), W.cell? ⟨g, k, none⟩ = some (.int .i64 ys[k])) := fun W ys hW k h => by
    rw [cell_of_row W g k _ _ _ hW, List.getElem?_toArray]
    have := encRow_at encI_len rest h 0 (.int .i64 ys[k]) rfl
    rw [Nat.mul_one, Nat.add_zero] at this
    exact this
  have HSet : Hid (∀ (W : World) (ys : List Int), W.heap[g]? = some (.cells (encRow encI ys ++ rest).toArray 3 (0, 0)) → ∀ k (h : k < ys.length) x, (W.setCell ⟨g, k, none⟩ (.int .i64 x)).heap[g]? = some (.cells (encRow encI (ys.set k x) ++ rest).toArray 3 (0, 0))) := fun W ys hW k h x => by
    have e : W.setCell ⟨g, k, none⟩ (.int .i64 x) = W.setCells g k (encI x) := rfl
    rw [e, setCells_row hW (by rw [List.length_append, encRow_len encI_len, encI_len]; omega) (one_intl x)]
    have := encRow_set encI_len rest h x
    rw [Nat.mul_one] at this
    rw [this]
    exact setRow_heap _ _ _ _ _ _ hW
  have hIx : Calls Try.prog 80 #[.slice (some ⟨g, 0, none⟩) l.length cap, .func (.func 72) #[] #[.pointer (some ⟨B, 0, none⟩)]] w fun e w' => e = .returned (.int .i64 (idxR (fun x => decide (x = n)) l)) ∧ Below w.heap.size w w' :=
    idxInt_any n B l _ [(g, 0, intRow l)] w hltB hc ⟨_, cap, rfl, by rw [intRow_enc]; exact encRow_len encI_len l, hcap, hcm, fun _ => ⟨g, 0, rfl, List.mem_singleton.2 rfl⟩, fun h => by cases h⟩ (fun r hr => by
      obtain rfl := List.mem_singleton.1 hr
      refine ⟨hlt0, fun j u hj => ?_⟩
      have hj' : (intRow l)[j]? = some u := hj
      rw [intRow_enc] at hj'
      show w.cell? ⟨g, 0 + j, none⟩ = some u
      rw [cell_of_row w g (0 + j) _ _ _ hg, List.getElem?_toArray, Nat.zero_add, List.getElem?_append_left (List.getElem?_eq_some_iff.1 hj').1]
      exact hj') hl
  have HCB : Hid (∀ W, w.grownBy W (some g) → W.cell? ⟨B, 0, none⟩ = some (.int .i64 n)) := fun W h => (World.cell?_of_block (a := ⟨B, 0, none⟩) (h.block B hltB (fun e => hBg (Option.some.inj e)))).trans hc
  have HG0 := Lib.hid hg
  have HC : Hid (l.length ≤ cap ∧ cap ≤ maxLen ∧ l.length ≤ 1000 ∧ g < w.heap.size) := ⟨hcap, hcm, hl, hlt0⟩
  have eg := enters_put
  unfold EntersF at eg
  clear hg hcap hcm hl hlt0 hc hltB hBg
  by_cases hr : idxR (fun x => decide (x = n)) l = -1
  · have hall := idxR_neg hr
    rw [hr] at hIx
    have HF : Hid (l.filter (fun x => !decide (x = n)) = l) := List.filter_eq_self.2 (List.all_eq_true.1 hall)
    clear hr hall
    go_enter Try.func71, Try.ntmps71
    go_wp2_with fail
    refine hIx.mono ?_
    rintro e w2 ⟨rfl, hb⟩
    have HB := Lib.hid hb
    clear hb hIx
    go_wp2_with fail
    go_ret
    refine ⟨by rw [HF.out]; rfl, ⟨[], by rw [HF.out, List.append_nil], ?_⟩, grown_below HB.out⟩
    rw [HF.out, List.append_nil]
    exact (HB.out.block _ HC.out.2.2.2).trans HG0.out
  · obtain ⟨k0, hk0, e0, hall, hx⟩ := idxR_pos hr
    have HK0 := Lib.hid (KeptR.start hk0 hall hx)
    have HK1 := Lib.hid hk0
    rw [e0] at hIx
    clear hr e0 hall hx
    have hk01 : ((k0 : Int) == -1) = false := by rw [beq_eq_false_iff_ne]; omega
    have hk0m : (k0 : Int) < 1001 := by have := HC.out; omega
    clear hk0
    go_enter Try.func71, Try.ntmps71
    go_wp2_with fail
    refine hIx.mono ?_
    rintro e w2 ⟨rfl, hb⟩
    have HB : Hid (w.grownBy w2 (some g) ∧ w2.heap[g]? = some (.cells (encRow encI l ++ rest).toArray 3 (0, 0))) := ⟨grown_below hb, (hb.block _ HC.out.2.2.2).trans HG0.out⟩
    clear hb hIx
    go_wp2_with fail
    go_loopw [5, 6] (fun si sj wr => ∃ (i j : Nat) (ys : List Int), si = .int .i64 i ∧ sj = .int .i64 j ∧ j ≤ l.length ∧ KeptR (fun x => decide (x = n)) l j i ys ∧ w.grownBy wr (some g) ∧ wr.heap[g]? = some (.cells (encRow encI ys ++ rest).toArray 3 (0, 0))) (fun _ sj _ => l.length - (intOf sj).toNat)
    case atStart => exact ⟨k0, k0 + 1, l, rfl, by go_num, HK1.out, HK0.out, HB.out.1, HB.out.2⟩
    case round =>
      clear hk01 hk0m
      obtain ⟨i, j, ys, rfl, rfl, hj, hk, hgb, hgr⟩ := hrel
      have HK := Lib.hid hk
      have HGb := Lib.hid hgb
      have HGr := Lib.hid hgr
      clear hk hgb hgr HB
      by_cases hlt : j < l.length
      · have hji : (j : Int) < (l.length : Int) := by omega
        have hj0 : (0 : Int) ≤ (j : Int) := by omega
        have hjm : (j : Int) < 1000 := by have := HC.out; omega
        have hi0 : (0 : Int) ≤ (i : Int) := by omega
        have hil : (i : Int) < (l.length : Int) := by have := HK.out.lt; omega
        have him : (i : Int) < 1000 := by have := HK.out.lt; omega
        obtain ⟨x, hxe⟩ : ∃ x, l[j] = x := ⟨_, rfl⟩
        have HXe := Lib.hid hxe
        have hylen := HK.out.len
        have hjy : j < ys.length := by omega
        have hiy : i < ys.length := by have := HK.out.lt; omega
        have hcell : wr.cell? ⟨g, j, none⟩ = some (.int .i64 x) := by
          have h := HRow.out wr ys HGr.out j hjy
          rw [HK.out.at hlt, hxe] at h
          exact h
        have hcello : wr.cell? ⟨g, i, none⟩ = some (.int .i64 ys[i]) := HRow.out wr ys HGr.out i hiy
        have hfz : wr.frozen? ⟨g, i, none⟩ = false := frozen_of_row _ _ _ _ _ HGr.out
        have hcall := putFn n x B wr (HCB.out wr HGb.out)
        have HYes := Lib.hid (fun h : decide (x = n) = false => HK.out.keep hlt (by rw [hxe]; exact h))
        have HNo := Lib.hid (fun h : decide (x = n) = true => HK.out.skip hlt (by rw [hxe]; exact h))
        have HSt := Lib.hid (HSet.out wr ys HGr.out i hiy x)
        generalize ys[i] = old at *
        clear hxe hylen hjy hj hiy
        obtain ⟨q, hq⟩ : ∃ q, decide (x = n) = q := ⟨_, rfl⟩
        rw [hq] at hcall
        have HQ := Lib.hid hq
        clear hq
        cases q
        · have HK2 := Lib.hid (HYes.out HQ.out)
          clear HYes HNo
          go_wp2_with fail
          refine hcall.mono ?_
          rintro e w3 ⟨rfl, rfl⟩
          clear hcall
          go_wp2_with fail
          go_roundw
          case rel => exact ⟨i + 1, j + 1, ys.set i x, by go_num, by go_num, by omega, by rw [← HXe.out]; exact (by have h := HK2.out; rw [HXe.out] at h ⊢; exact h), grown_trans HGb.out ⟨rfl, rfl, rfl, by simp [World.setCell], fun k hk hne => Below.heap_setCell _ _ _ _ (fun e => hne (by rw [e]))⟩, HSt.out⟩
          case measure => simp [intOf]; omega
        · have HK2 := Lib.hid (HNo.out HQ.out)
          clear HYes HNo
          go_wp2_with fail
          refine hcall.mono ?_
          rintro e w3 ⟨rfl, rfl⟩
          clear hcall
          go_wp2_with fail
          go_roundw
          case rel => exact ⟨i, j + 1, ys, rfl, by go_num, by omega, HK2.out, HGb.out, HGr.out⟩
          case measure => simp [intOf]; omega
      · obtain rfl : j = l.length := by omega
        have hilt : i < l.length := HK.out.lt
        have hic : ¬ (cap = i) := by have := HC.out; omega
        have hil : (i : Int) ≤ (l.length : Int) := by omega
        have hi0 : (0 : Int) ≤ (i : Int) := by omega
        have hcl0 : (i : Int) ≤ (cap : Int) := by have := HC.out; omega
        have hcl := fun ty c => run_clear_row (t := 24) encI_len (by decide) Try.underlying24 0 (.int .i64 0) rfl zeroV_int wr HGr.out (i := i) (by rw [HK.out.len]; exact hilt) (one_intl _) ty c
        rw [HK.out.len, Nat.mul_one] at hcl
        clear hlt
        go_wp2_with fail
        go_ret
        obtain ⟨h1, h2⟩ := HK.out.done
        refine ⟨by rw [← h2]; rfl, ⟨List.replicate (l.length - i) 0, ?_, ?_⟩, grown_trans HGb.out (grown_setRow _ _ _)⟩
        · rw [List.length_append, ← h2, List.length_replicate]; omega
        · rw [← h1]; exact setRow_heap _ _ _ _ _ _ HGr.out
end Go.Proofs.Ythcjkbhkidijoaa
/- the library's BinarySearch in ascending numbers -/
namespace Go.Proofs.Ythcjkbhkidijoaa
open Go.RowKit
set_option maxRecDepth 20000
set_option linter.unusedSimpArgs false
set_option linter.unusedVariables false

set_option maxHeartbeats 4000000 in
theorem less_any (x y : Int) (W : World) : Calls Try.prog 75 #[.int .i64 x, .int .i64 y] W fun e w' => e = .returned (.bool (decide (x < y))) ∧ w' = W := by
  go_enter Try.func75, Try.ntmps75
  go_wp2
  go_ret
  exact ⟨rfl, rfl⟩
/-- where a number belongs in a list -/
structure PosR (t : Int) (l : List Int) (i : Nat) : Prop where
  le : i ≤ l.length
  low : ∀ j (h : j < l.length), j < i → l[j] < t
  high : ∀ j (h : j < l.length), i ≤ j → t ≤ l[j]
theorem pos_exists (t : Int) : ∀ l : List Int, l.Pairwise (· < ·) → ∃ i, PosR t l i
  | [], _ => ⟨0, Nat.le_refl _, fun j h => absurd h (Nat.not_lt_zero _), fun j h => absurd h (Nat.not_lt_zero _)⟩
  | x :: l, hs => by
    rw [List.pairwise_cons] at hs
    by_cases h : t ≤ x
    · refine ⟨0, Nat.zero_le _, fun j _ hj => absurd hj (Nat.not_lt_zero _), fun j hj _ => ?_⟩
      cases j with
      | zero => exact h
      | succ j =>
        have := hs.1 _ (List.getElem_mem (by simpa using hj : j < l.length))
        rw [List.getElem_cons_succ]
        omega
    · obtain ⟨i, h1, h2, h3⟩ := pos_exists t l hs.2
      refine ⟨i + 1, by simpa using h1, fun j hj hji => ?_, fun j hj hij => ?_⟩
      · cases j with
        | zero => show x < t; omega
        | succ j => rw [List.getElem_cons_succ]; exact h2 j (by simpa using hj) (by omega)
      · cases j with
        | zero => omega
        | succ j => rw [List.getElem_cons_succ]; exact h3 j (by simpa using hj) (by omega)
theorem pos_unique {t : Int} {l : List Int} {i j : Nat} (h : PosR t l i) (k : PosR t l j) : i = j := by
  rcases Nat.lt_trichotomy i j with hl | hl | hl
  · have h1 := h.high i (by have := k.le; omega) (Nat.le_refl _)
    have h2 := k.low i (by have := k.le; omega) hl
    omega
  · exact hl
  · have h1 := k.high j (by have := h.le; omega) (Nat.le_refl _)
    have h2 := h.low j (by have := h.le; omega) hl
    omega
set_option maxHeartbeats 4000000 in
theorem binSearch_any (t : Int) (l : List Int) (v : Value) (R : List Rng) (w : World) (hs : l.Pairwise (· < ·)) (hv : SlRd v 1 l.length (intRow l) R) (hR : RdIn w R) (hl : l.length ≤ 1000) :
    Calls Try.prog 63 #[v, .int .i64 t] w fun e w' => ∃ i : Nat, e = .returned (.tuple #[.int .i64 i, .bool (decide (l[i]? = some t))]) ∧ PosR t l i ∧ w' = w := by
  obtain ⟨a, cap, rfl, hnc, hcm, hg⟩ := hv.open hR
  have HC : Hid (l.length ≤ cap ∧ cap ≤ maxLen) := ⟨hnc, hcm⟩
  have HL := Lib.hid hl
  have HS := Lib.hid hs
  clear hv hR hnc hcm hl hs
  go_enter Try.func63, Try.ntmps63
  go_wp2_with fail
  go_loopw [7, 8] (fun si sj wr => ∃ i j : Nat, si = .int .i64 i ∧ sj = .int .i64 j ∧ i ≤ j ∧ j ≤ l.length ∧ (∀ k (h : k < l.length), k < i → l[k] < t) ∧ (∀ k (h : k < l.length), j ≤ k → t ≤ l[k]) ∧ wr = w) (fun si sj _ => (intOf sj).toNat - (intOf si).toNat)
  case atStart => exact ⟨0, l.length, rfl, rfl, by omega, by omega, fun k h hk => absurd hk (Nat.not_lt_zero _), fun k h hk => absurd hk (by omega), rfl⟩
  case round =>
    obtain ⟨i, j, rfl, rfl, hij, hj, hlo, hhi, rfl⟩ := hrel
    have HLo := Lib.hid hlo
    have HHi := Lib.hid hhi
    have HIJ : Hid (i ≤ j ∧ j ≤ l.length) := ⟨hij, hj⟩
    clear hlo hhi
    by_cases hlt : i < j
    · obtain ⟨h, hh⟩ : ∃ h, (i + j) / 2 = h := ⟨_, rfl⟩
      have hih : i ≤ h ∧ h < j := by omega
      have hhl : h < l.length := by omega
      obtain ⟨b, off, rfl, hr⟩ := hg.out (by omega)
      obtain ⟨y, hy⟩ : ∃ y, l[h] = y := ⟨_, rfl⟩
      have hcell : wr.cell? ⟨b, off + h, none⟩ = some (.int .i64 y) := by rw [← hy]; exact hr wr (Below.refl _ _) h _ (intRow_at l h hhl)
      have hi1 : (i : Int) < (j : Int) := by omega
      have hlm : (l.length : Int) < 1001 := by have := HL.out; omega
      have hw0 : IntKind.i64.wrap ((i : Int) + (j : Int)) = (i : Int) + (j : Int) := by rw [IntKind.wrap_i64]; omega
      have hw1 : IntKind.u64.wrap ((i : Int) + (j : Int)) = (i : Int) + (j : Int) := by rw [IntKind.wrap_u64]; omega
      have hw2 : ((i : Int) + (j : Int)) / 2 = (h : Int) := by omega
      have hw3 : IntKind.i64.wrap (h : Int) = (h : Int) := by rw [IntKind.wrap_i64]; omega
      have hw4 : IntKind.u64.wrap (h : Int) = (h : Int) := by rw [IntKind.wrap_u64]; omega
      have hh0 : (0 : Int) ≤ (h : Int) := by omega
      have hhl2 : (h : Int) < (l.length : Int) := by omega
      have hhm : (h : Int) < 1001 := by omega
      have HH : Hid (i ≤ h ∧ h < j ∧ h < l.length) := ⟨hih.1, hih.2, hhl⟩
      have hmono : Hid (∀ k (hk : k < l.length), k ≤ h → l[k] ≤ y) := fun k hk hkh => by
        rw [← hy]
        rcases Nat.lt_or_eq_of_le hkh with h1 | h1
        · exact Int.le_of_lt (List.pairwise_iff_getElem.1 HS.out k h hk hhl h1)
        · subst h1; exact Int.le_refl _
      have hmono2 : Hid (∀ k (hk : k < l.length), h ≤ k → y ≤ l[k]) := fun k hk hkh => by
        rw [← hy]
        rcases Nat.lt_or_eq_of_le hkh with h1 | h1
        · exact Int.le_of_lt (List.pairwise_iff_getElem.1 HS.out h k hhl hk h1)
        · subst h1; exact Int.le_refl _
      have hless := less_any y t wr
      clear hr hy hg hih hh hhl
      by_cases hyt : y < t
      · have hd : decide (y < t) = true := decide_eq_true hyt
        rw [hd] at hless
        have HY := Lib.hid hyt
        clear hyt hd
        go_wp2_with fail
        refine hless.mono ?_
        rintro e w2 ⟨rfl, rfl⟩
        clear hless
        go_wp2_with fail
        go_roundw
        case rel => exact ⟨h + 1, j, by go_num, rfl, by have := HH.out; omega, HIJ.out.2, fun k hk hkh => by have := hmono.out k hk (by omega); have := HY.out; omega, HHi.out, trivial⟩
        case measure => have := HH.out; simp [intOf]; omega
      · have hd : decide (y < t) = false := decide_eq_false hyt
        rw [hd] at hless
        have HY := Lib.hid hyt
        clear hyt hd
        go_wp2_with fail
        refine hless.mono ?_
        rintro e w2 ⟨rfl, rfl⟩
        clear hless
        go_wp2_with fail
        go_roundw
        case rel => exact ⟨i, h, rfl, rfl, HH.out.1, by have := HH.out; omega, HLo.out, fun k hk hkh => by have := hmono2.out k hk hkh; have := HY.out; omega, trivial⟩
        case measure => have := HH.out; simp [intOf]; omega
    · obtain rfl : i = j := by omega
      have HP : Hid (PosR t l i) := ⟨hj, HLo.out, fun k hk hik => HHi.out k hk hik⟩
      by_cases hil : i < l.length
      · obtain ⟨b, off, rfl, hr⟩ := hg.out (by omega)
        obtain ⟨y, hy⟩ : ∃ y, l[i] = y := ⟨_, rfl⟩
        have hcell : wr.cell? ⟨b, off + i, none⟩ = some (.int .i64 y) := by rw [← hy]; exact hr wr (Below.refl _ _) i _ (intRow_at l i hil)
        have hi1 : (i : Int) < (l.length : Int) := by omega
        have hi0 : (0 : Int) ≤ (i : Int) := by omega
        have HD : Hid (l[i]? = some y) := by show _ = _; rw [List.getElem?_eq_getElem hil, hy]
        clear hr hy hg
        by_cases hyt : y = t
        · have hb1 : (y == t) = true := by simp [hyt]
          have HR : Hid (decide (l[i]? = some t) = true) := decide_eq_true (by rw [HD.out, hyt])
          clear hyt
          go_wp2
          exact bodyPost_ret (v := .tuple #[.int .i64 i, .bool true]) (by simp [results, Try.results63, go_sem]) rfl ⟨i, by rw [HR.out], HP.out, rfl⟩
        · have hb1 : (y == t) = false := by rw [beq_eq_false_iff_ne]; exact hyt
          have HR : Hid (decide (l[i]? = some t) = false) := decide_eq_false (by rw [HD.out]; intro h; exact hyt (Option.some.inj h))
          clear hyt
          go_wp2
          exact bodyPost_ret (v := .tuple #[.int .i64 i, .bool false]) (by simp [results, Try.results63, go_sem]) rfl ⟨i, by rw [HR.out], HP.out, rfl⟩
      · have hi1 : ¬ (i : Int) < (l.length : Int) := by omega
        have HR : Hid (decide (l[i]? = some t) = false) := decide_eq_false (by rw [List.getElem?_eq_none (by omega)]; intro h; cases h)
        clear hg
        go_wp2
        exact bodyPost_ret (v := .tuple #[.int .i64 i, .bool false]) (by simp [results, Try.results63, go_sem]) rfl ⟨i, by rw [HR.out], HP.out, rfl⟩
theorem binSearch_at (t : Int) (l : List Int) (v : Value) (R : List Rng) (w : World) (hs : l.Pairwise (· < ·)) (hv : SlRd v 1 l.length (intRow l) R) (hR : RdIn w R) (hl : l.length ≤ 1000) {i : Nat} (hi : PosR t l i) :
    Calls Try.prog 63 #[v, .int .i64 t] w fun e w' => e = .returned (.tuple #[.int .i64 i, .bool (decide (l[i]? = some t))]) ∧ w' = w :=
  (binSearch_any t l v R w hs hv hR hl).mono fun e w' ⟨j, h1, h2, h3⟩ => by
    obtain rfl := pos_unique hi h2
    exact ⟨h1, h3⟩
end Go.Proofs.Ythcjkbhkidijoaa
/- bits.Mul at one and a small number -/
namespace Go.Proofs.Ythcjkbhkidijoaa
open Go.RowKit
set_option maxRecDepth 20000
set_option linter.unusedSimpArgs false
set_option linter.unusedVariables false

theorem and_small (n : Nat) (hn : n ≤ 64) : bits BinOp.and IntKind.u64 (n : Int) 4294967295 = n := by
  have h : ∀ k : Fin 65, bits BinOp.and IntKind.u64 ((k.1 : Nat) : Int) 4294967295 = (k.1 : Int) := by decide
  exact h ⟨n, by omega⟩
set_option maxHeartbeats 4000000 in
theorem mul_any (n : Nat) (hn : n ≤ 64) (w : World) : Calls Try.prog 74 #[.int .u64 1, .int .u64 n] w fun e w' => e = .returned (.tuple #[.int .u64 0, .int .u64 n]) ∧ w' = w := by
  have e1 : bits BinOp.and IntKind.u64 1 4294967295 = 1 := and_small 1 (by decide)
  have e2 := and_small n hn
  have e3 : (n : Int) / 4294967296 = 0 := by omega
  have e4 : IntKind.u64.wrap (n : Int) = n := by rw [IntKind.wrap_u64]; omega
  have e5 : IntKind.u64.wrap 0 = 0 := by decide
  have e6 : bits BinOp.and IntKind.u64 0 4294967295 = 0 := and_small 0 (by decide)
  clear hn
  generalize (n : Int) = y at *
  go_enter Try.func74, Try.ntmps74
  go_wp2
  exact bodyPost_ret (v := .tuple #[.int .u64 0, .int .u64 y]) (by simp [results, Try.results74, go_sem]) rfl ⟨rfl, rfl⟩
end Go.Proofs.Ythcjkbhkidijoaa
/- the choices of the drawing package: Data -/
namespace Go.Proofs.Ythcjkbhkidijoaa
open Go.RowKit
set_option maxRecDepth 20000

/-- what Data leaves: some short text -/
def DataPost (C : Nat) (w : World) (e : Ending) (w' : World) : Prop :=
  ∃ s : ByteArray, e = .returned (.string s) ∧ s.size ≤ 13 ∧ Besides C w w' ∧ CodesOk w' C
/-- a row of bytes of the call's own is read as a text -/
theorem conv_own (W : World) (base : Nat) (v : Value) (l : List UInt8) (h : W.ownsRow base 5 1 v l.length (l.map (fun b => Value.int .u8 (b.toNat : Int)))) (hv : v ≠ .slice none 0 0) :
    Sem.run Try.prog (convert 22 9 v) W = .ok (.string ⟨l.toArray⟩) W := by
  rcases h.2 with ⟨h1, _⟩ | ⟨g, cap, cur, rfl, _, hg, _⟩
  · exact absurd h1 hv
  · refine run_convert_bytes_back (P := Try.prog) W 22 9 5 ⟨g, 0, none⟩ cap l Try.underlying22 Try.underlying5 Try.underlying9 (fun j hj => ?_)
    exact h.cells rfl j _ (by rw [List.getElem?_map, List.getElem?_eq_getElem hj]; rfl)

theorem Besides.of_grown {C : Nat} {w w' : World} (h : w.grownBy w' none) : Besides C w w' := ⟨h.os, h.tape, h.output, h.size, fun k hk _ => h.block k hk (by simp), fun hC => World.cell?_of_block (a := ⟨C, 0, none⟩) (h.block C hC (by simp))⟩
theorem Below.of_grown {w w' : World} (h : w.grownBy w' none) : Below w.heap.size w w' := ⟨h.os, h.tape, h.output, h.size, fun k hk => h.block k hk (by simp)⟩

theorem Besides.grown {C : Nat} {a w w' : World} {row : Option Nat} (h : Besides C a w) (hg : w.grownBy w' row) (hr : ∀ k, row = some k → a.heap.size ≤ k) : Besides C a w' :=
  ⟨hg.os.trans h.os, hg.tape.trans h.tape, hg.output.trans h.output, Nat.le_trans h.size hg.size, fun k hk hC => (hg.block k (Nat.lt_of_lt_of_le hk h.size) (fun e => by have := hr k e.symm; omega)).trans (h.block k hk hC),
    fun hC => (World.cell?_of_block (a := ⟨C, 0, none⟩) (hg.block C (Nat.lt_of_lt_of_le hC h.size) (fun e => by have := hr C e.symm; omega))).trans (h.head hC)⟩
theorem own_lt {B : Nat} {W : World} {e : TypeId} {z n : Nat} {v : Value} {xs : List Value} (h : W.ownsRow B e z v n xs) (hv : v ≠ .slice none 0 0) : B < W.heap.size := by
  rcases h.2 with ⟨h1, _⟩ | ⟨g, cap, cur, rfl, hB, hg, _⟩
  · exact absurd h1 hv
  · have := (Array.getElem?_eq_some_iff.1 hg).1; omega
theorem own_besides {B C : Nat} {W W' : World} {e : TypeId} {z n : Nat} {v : Value} {xs : List Value} (h : W.ownsRow B e z v n xs) (hb : Besides C W W') (hC : C < B) : W'.ownsRow B e z v n xs :=
  h.kept (row := some C) ⟨hb.os, hb.tape, hb.output, hb.size, fun k hk hne => hb.block k hk (by intro e; exact hne (by rw [e]))⟩ (by
    cases hv : v.ownBlock with
    | none => exact .inl rfl
    | some k => right; intro e; injection e with e; have := (h.lt k hv).1; omega)

set_option maxHeartbeats 1000000 in
theorem data_any (C : Nat) (w : World) (h : CodesOk w C) :
    Calls Try.prog 19 #[.pointer (some ⟨C, 0, none⟩)] w (DataPost C w) := by
  have HK := Lib.hid h
  clear h
  obtain ⟨i0, hi, hz0, hz1, hz2⟩ := info_byte'
  go_enter Try.func19, Try.ntmps19
  go_wp2_with fail
  refine (next_any C 5 _ HK.out (by omega)).mono ?_
  rintro e w2 ⟨n, rfl, n0, n1, hb2, hc2⟩
  have HB2 := Lib.hid hb2
  have HC2 := Lib.hid hc2
  clear hb2 hc2
  go_wp2_with fail
  refine (next_any C 6 _ HC2.out (by omega)).mono ?_
  rintro e w3 ⟨m, rfl, m0, m1, hb3, hc3⟩
  have HB3 := Lib.hid (HB2.out.trans hb3)
  have HC3 := Lib.hid hc3
  clear m1 hb3 hc3
  by_cases h0 : m = 0
  · have h0b : (m == 0) = true := by rw [h0]; rfl
    clear h0
    go_wp2_with fail
    refine (next_any C 14 _ HC3.out (by omega)).mono ?_
    rintro e w4 ⟨x, rfl, x0, x1, hb4, hc4⟩
    obtain ⟨n, rfl⟩ := Int.eq_ofNat_of_zero_le x0
    have hn : n ≤ 13 := by omega
    clear x1 x0
    have HB4 := Lib.hid (HB3.out.trans hb4)
    have HC4 := Lib.hid hc4
    clear hb4 hc4
    go_wp2_with (refine wpList_make_own _ rfl _ _ 22 rfl w4.heap.size 5 i0 (.int .u8 0) 1 Try.underlying22 hi hz0 hz1 .i64 .i64 _ n rfl rfl rfl ?m1 ?m2 ?m3 ?_)
    case m1 => rw [hz2]; omega
    case m2 => unfold maxLen; omega
    case m3 => exact Nat.le_refl _
    intro w5 hown5 hgr5
    have HB5 : Hid (Besides C w w5) := HB4.out.trans (Besides.of_grown hgr5)
    have HC5 : Hid (CodesOk w5 C) := HC4.out.below (Below.of_grown hgr5) HC4.out.lt
    have HBw : Hid (w.heap.size ≤ w4.heap.size) := HB4.out.size
    have HCB : Hid (C < w4.heap.size) := HC4.out.lt
    have HO5 := Lib.hid hown5
    clear hown5 hgr5
    generalize w4.heap.size = B at *
    go_wp2_with fail
    go_loopw [4, 5] (fun v i wr => ∃ (k : Nat) (l : List UInt8), k ≤ n ∧ i = .int .i64 k ∧ l.length = k ∧ v ≠ .slice none 0 0 ∧ wr.ownsRow B 5 1 v l.length (l.map (fun b => Value.int .u8 (b.toNat : Int))) ∧ Besides C w wr ∧ CodesOk wr C) (fun _ i _ => n - (intOf i).toNat)
    case atStart => exact ⟨0, [], by omega, rfl, rfl, by simp, HO5.out, HB5.out, HC5.out⟩
    case round =>
      obtain ⟨k, l, hk, rfl, hl, hv, hown, hbr, hcr⟩ := hrel
      have HV := Lib.hid hv
      have HO := Lib.hid hown
      have HBr := Lib.hid hbr
      have HCr := Lib.hid hcr
      have HL := Lib.hid hl
      clear hv hown hbr hcr hl
      by_cases hlt : (k : Int) < (n : Int)
      · go_wp2_with fail
        refine (next_any C 3 _ HCr.out (by omega)).mono ?_
        rintro e w6 ⟨x, rfl, x0, x1, hb6, hc6⟩
        have x2 : x ≤ 2 := by omega
        have HO6 := Lib.hid (own_besides HO.out hb6 HCB.out)
        have HB6 := Lib.hid (HBr.out.trans hb6)
        have HC6 := Lib.hid hc6
        have hwa : IntKind.i64.wrap (97 + x) = 97 + x := IntWalk.i64_in _ (by omega)
        have hwb : IntKind.u8.wrap (97 + x) = 97 + x := IntWalk.u8_in _ (by omega)
        have HX : Hid (Value.int .u8 (97 + x) = Value.int .u8 (((UInt8.ofNat (97 + x).toNat).toNat : Nat) : Int)) := by
          show _ = _
          rw [UInt8.toNat_ofNat', show (((97 + x).toNat % 2 ^ 8 : Nat) : Int) = 97 + x from by omega]
        clear x1 hb6 hc6
        go_wp2_with (at_builtin; refine wpList_append_own _ rfl _ _ 22 rfl B 5 i0 (.int .u8 0) 1 1 Try.underlying22 hi hz0 hz1 hz2 rfl (by decide) _ _ _ rfl (HO6.out.alloc _) ⟨w6.heap.size, 0, none⟩ 1 1 [.int .u8 (97 + x)] rfl rfl ?c1 ?c2 ?c3 ?c4 ?c5 ?_)
        case c1 =>
          intro j u hj
          match j, hj with
          | 0, hj => simp at hj; subst hj; simp [Addr.add]
        case c2 => intro u hu; simp at hu; subst hu; rfl
        case c3 => have := HL.out; unfold maxLen; omega
        case c4 => have := HL.out; omega
        case c5 => have := own_lt HO6.out HV.out; simp; omega
        intro v' w7 hown7 hgr7 hnil7
        have HO7 : Hid (w7.ownsRow B 5 1 v' (l ++ [UInt8.ofNat (97 + x).toNat]).length ((l ++ [UInt8.ofNat (97 + x).toNat]).map (fun b => Value.int .u8 (b.toNat : Int)))) := by
          show World.ownsRow _ _ _ _ _ _ _
          rw [List.length_append, List.map_append, List.map_singleton, ← HX.out]
          exact hown7
        have HV7 : Hid (v' ≠ .slice none 0 0) := fun e => by first | exact hnil7 e | exact HV.out (hnil7.1 e).1
        have HB7 : Hid (Besides C w w7) := (HB6.out.alloc _).grown hgr7 (fun k hk => Nat.le_trans HBw.out (HO6.out.lt k hk).1)
        have HC7 : Hid (CodesOk w7 C) := (HC6.out.below ((Below.refl _ _).alloc (Nat.le_refl _) _) HC6.out.lt).below (B := C + 1) ((Below.refl _ _).grown hgr7 (by have := HC6.out.lt; simp; omega) (fun k hk => Nat.lt_of_lt_of_le HCB.out (HO6.out.lt k hk).1)) (Nat.lt_succ_self _)
        clear hown7 hgr7 hnil7
        have hkw : IntKind.i64.wrap ((k : Int) + 1) = (k : Int) + 1 := IntWalk.i64_in _ (by omega)
        go_wp2_with fail
        go_roundw
        case rel => exact ⟨k + 1, _, by omega, rfl, by rw [List.length_append, HL.out]; rfl, HV7.out, HO7.out, HB7.out, HC7.out⟩
        case measure => simp [intOf]; omega
      · have hcv := conv_own _ _ _ _ HO.out HV.out
        go_wp2_with fail
        go_ret
        exact ⟨_, rfl, by show l.toArray.size ≤ 13; have := HL.out; simp; omega, HBr.out, HCr.out⟩
  · have h0b : (m == 0) = false := by rw [beq_eq_false_iff_ne]; exact h0
    clear h0
    obtain ⟨n, rfl⟩ := Int.eq_ofNat_of_zero_le n0
    have hn : n ≤ 13 := by omega
    clear n1 n0
    go_wp2_with (refine wpList_make_own _ rfl _ _ 22 rfl w3.heap.size 5 i0 (.int .u8 0) 1 Try.underlying22 hi hz0 hz1 .i64 .i64 _ n rfl rfl rfl ?m1 ?m2 ?m3 ?_)
    case m1 => rw [hz2]; omega
    case m2 => unfold maxLen; omega
    case m3 => exact Nat.le_refl _
    intro w5 hown5 hgr5
    have HB5 : Hid (Besides C w w5) := HB3.out.trans (Besides.of_grown hgr5)
    have HC5 : Hid (CodesOk w5 C) := HC3.out.below (Below.of_grown hgr5) HC3.out.lt
    have HBw : Hid (w.heap.size ≤ w3.heap.size) := HB3.out.size
    have HCB : Hid (C < w3.heap.size) := HC3.out.lt
    have HO5 := Lib.hid hown5
    clear hown5 hgr5
    generalize w3.heap.size = B at *
    go_wp2_with fail
    go_loopw [4, 5] (fun v i wr => ∃ (k : Nat) (l : List UInt8), k ≤ n ∧ i = .int .i64 k ∧ l.length = k ∧ v ≠ .slice none 0 0 ∧ wr.ownsRow B 5 1 v l.length (l.map (fun b => Value.int .u8 (b.toNat : Int))) ∧ Besides C w wr ∧ CodesOk wr C) (fun _ i _ => n - (intOf i).toNat)
    case atStart => exact ⟨0, [], by omega, rfl, rfl, by simp, HO5.out, HB5.out, HC5.out⟩
    case round =>
      obtain ⟨k, l, hk, rfl, hl, hv, hown, hbr, hcr⟩ := hrel
      have HV := Lib.hid hv
      have HO := Lib.hid hown
      have HBr := Lib.hid hbr
      have HCr := Lib.hid hcr
      have HL := Lib.hid hl
      clear hv hown hbr hcr hl
      by_cases hlt : (k : Int) < (n : Int)
      · go_wp2_with fail
        refine (next_any C 3 _ HCr.out (by omega)).mono ?_
        rintro e w6 ⟨x, rfl, x0, x1, hb6, hc6⟩
        have x2 : x ≤ 2 := by omega
        have HO6 := Lib.hid (own_besides HO.out hb6 HCB.out)
        have HB6 := Lib.hid (HBr.out.trans hb6)
        have HC6 := Lib.hid hc6
        have hwa : IntKind.i64.wrap (97 + x) = 97 + x := IntWalk.i64_in _ (by omega)
        have hwb : IntKind.u8.wrap (97 + x) = 97 + x := IntWalk.u8_in _ (by omega)
        have HX : Hid (Value.int .u8 (97 + x) = Value.int .u8 (((UInt8.ofNat (97 + x).toNat).toNat : Nat) : Int)) := by
          show _ = _
          rw [UInt8.toNat_ofNat', show (((97 + x).toNat % 2 ^ 8 : Nat) : Int) = 97 + x from by omega]
        clear x1 hb6 hc6
        go_wp2_with (at_builtin; refine wpList_append_own _ rfl _ _ 22 rfl B 5 i0 (.int .u8 0) 1 1 Try.underlying22 hi hz0 hz1 hz2 rfl (by decide) _ _ _ rfl (HO6.out.alloc _) ⟨w6.heap.size, 0, none⟩ 1 1 [.int .u8 (97 + x)] rfl rfl ?c1 ?c2 ?c3 ?c4 ?c5 ?_)
        case c1 =>
          intro j u hj
          match j, hj with
          | 0, hj => simp at hj; subst hj; simp [Addr.add]
        case c2 => intro u hu; simp at hu; subst hu; rfl
        case c3 => have := HL.out; unfold maxLen; omega
        case c4 => have := HL.out; omega
        case c5 => have := own_lt HO6.out HV.out; simp; omega
        intro v' w7 hown7 hgr7 hnil7
        have HO7 : Hid (w7.ownsRow B 5 1 v' (l ++ [UInt8.ofNat (97 + x).toNat]).length ((l ++ [UInt8.ofNat (97 + x).toNat]).map (fun b => Value.int .u8 (b.toNat : Int)))) := by
          show World.ownsRow _ _ _ _ _ _ _
          rw [List.length_append, List.map_append, List.map_singleton, ← HX.out]
          exact hown7
        have HV7 : Hid (v' ≠ .slice none 0 0) := fun e => by first | exact hnil7 e | exact HV.out (hnil7.1 e).1
        have HB7 : Hid (Besides C w w7) := (HB6.out.alloc _).grown hgr7 (fun k hk => Nat.le_trans HBw.out (HO6.out.lt k hk).1)
        have HC7 : Hid (CodesOk w7 C) := (HC6.out.below ((Below.refl _ _).alloc (Nat.le_refl _) _) HC6.out.lt).below (B := C + 1) ((Below.refl _ _).grown hgr7 (by have := HC6.out.lt; simp; omega) (fun k hk => Nat.lt_of_lt_of_le HCB.out (HO6.out.lt k hk).1)) (Nat.lt_succ_self _)
        clear hown7 hgr7 hnil7
        have hkw : IntKind.i64.wrap ((k : Int) + 1) = (k : Int) + 1 := IntWalk.i64_in _ (by omega)
        go_wp2_with fail
        go_roundw
        case rel => exact ⟨k + 1, _, by omega, rfl, by rw [List.length_append, HL.out]; rfl, HV7.out, HO7.out, HB7.out, HC7.out⟩
        case measure => simp [intOf]; omega
      · have hcv := conv_own _ _ _ _ HO.out HV.out
        go_wp2_with fail
        go_ret
        exact ⟨_, rfl, by show l.toArray.size ≤ 13; have := HL.out; simp; omega, HBr.out, HCr.out⟩
end Go.Proofs.Ythcjkbhkidijoaa
/- the choices of the drawing package: Bytes -/
namespace Go.Proofs.Ythcjkbhkidijoaa
open Go.RowKit
set_option maxRecDepth 20000

/-- what Bytes leaves: some text of a page's length -/
def BytesPost (C : Nat) (w : World) (e : Ending) (w' : World) : Prop :=
  ∃ s : ByteArray, e = .returned (.string s) ∧ s.size = 256 ∧ Besides C w w' ∧ CodesOk w' C
/-- a row of bytes is block B -/
def RowIn (w : World) (B : Nat) (l : List UInt8) : Prop := w.heap[B]? = some (.cells (l.map (fun b => Value.int .u8 (b.toNat : Int))).toArray 5 (0, 0))
theorem RowIn.lt {w : World} {B : Nat} {l : List UInt8} (h : RowIn w B l) : B < w.heap.size := (Array.getElem?_eq_some_iff.1 h).1
theorem RowIn.besides {w w' : World} {B C : Nat} {l : List UInt8} (h : RowIn w B l) (hb : Besides C w w') (hC : B ≠ C) : RowIn w' B l := (hb.block B h.lt hC).trans h
theorem RowIn.cell {w : World} {B : Nat} {l : List UInt8} (h : RowIn w B l) (i : Nat) (hi : i < l.length) : w.cell? ⟨B, i, none⟩ = some (.int .u8 (l[i].toNat : Int)) := by
  unfold RowIn at h
  simp [World.cell?, h, List.getElem?_eq_getElem hi]
theorem RowIn.frozen {w : World} {B : Nat} {l : List UInt8} (h : RowIn w B l) (i : Nat) : w.frozen? ⟨B, i, none⟩ = false := by
  unfold RowIn at h
  simp [World.frozen?, h]
theorem RowIn.set {w : World} {B : Nat} {l : List UInt8} (h : RowIn w B l) (k : Nat) (x : Int) (x0 : 0 ≤ x) (x1 : x ≤ 255) : RowIn (w.setCell ⟨B, k, none⟩ (.int .u8 x)) B (l.set k (UInt8.ofNat x.toNat)) := by
  refine (heap_setCell_same w B k _ _ _ h).trans ?_
  rw [List.setIfInBounds_toArray, List.map_set, UInt8.toNat_ofNat', show ((x.toNat % 2 ^ 8 : Nat) : Int) = x from by omega]
theorem RowIn.conv {w : World} {B : Nat} {l : List UInt8} (h : RowIn w B l) (n c : Nat) (hn : n = l.length) : Sem.run Try.prog (convert 22 9 (.slice (some ⟨B, 0, none⟩) n c)) w = .ok (.string ⟨l.toArray⟩) w := by
  subst hn
  refine run_convert_bytes_back (P := Try.prog) w 22 9 5 ⟨B, 0, none⟩ c l Try.underlying22 Try.underlying5 Try.underlying9 (fun j hj => ?_)
  have ea : (⟨B, 0, none⟩ : Addr).add j = ⟨B, j, none⟩ := by
    simp only [Addr.add]; split
    · next h => rw [h]
    · simp
  rw [ea]
  exact h.cell j hj

theorem made_row (m : Nat) : Obj.cells (madeCells #[.int .u8 0] m) 5 = .cells ((List.replicate m (0 : UInt8)).map (fun b => Value.int .u8 (b.toNat : Int))).toArray 5 (0, 0) := by
  congr 1
  apply Array.toList_inj.1
  rw [toList_madeCells_one, List.map_replicate]
  rfl
theorem len_rep (m : Nat) : (List.replicate m (0 : UInt8)).length = m := List.length_replicate
set_option maxHeartbeats 1000000 in
theorem bytes_any (C : Nat) (w : World) (h : CodesOk w C) :
    Calls Try.prog 18 #[.pointer (some ⟨C, 0, none⟩)] w (BytesPost C w) := by
  have HK := Lib.hid h
  clear h
  have hmk : Sem.run Try.prog (Instr.makeSlice 22 (.int .i64 256) (.int .i64 256)) w = .ok (.slice (some ⟨w.heap.size, 0, none⟩) 256 256) (w.alloc (.cells (madeCells #[.int .u8 0] 256) 5)) :=
    run_make_row' 22 5 (.int .u8 0) 1 Try.underlying22 info_byte rfl .i64 .i64 256 (by decide) (by decide) w
  rw [made_row] at hmk
  have hlen := len_rep 256
  generalize List.replicate 256 (0 : UInt8) = L0 at hmk hlen
  have HRa : Hid (RowIn (w.alloc (.cells (L0.map (fun b => Value.int .u8 (b.toNat : Int))).toArray 5 (0, 0))) w.heap.size L0) := heap_alloc_last w _
  generalize (L0.map (fun b => Value.int .u8 (b.toNat : Int))).toArray = cells0 at hmk HRa
  have HL0 := Lib.hid hlen
  clear hlen
  go_enter Try.func18, Try.ntmps18
  go_wp2_with fail
  refine (next_any C 256 _ (HK.out.below ((Below.refl _ _).alloc (Nat.le_refl _) _) HK.out.lt) (by omega)).mono ?_
  rintro e w2 ⟨x, rfl, x0, x1, hb2, hc2⟩
  have x2 : x ≤ 255 := by omega
  have HBC : Hid (w.heap.size ≠ C) := by have := HK.out.lt; show _ ≠ _; omega
  have HCB : Hid (C < w.heap.size) := HK.out.lt
  have HR2 := Lib.hid (HRa.out.besides hb2 HBC.out)
  have HB2 := Lib.hid (((Besides.refl C w).alloc _).trans hb2)
  have HC2 := Lib.hid hc2
  clear hb2 hc2 x1 hmk
  have hwx : IntKind.u8.wrap x = x := IntWalk.u8_in _ ⟨x0, x2⟩
  have HX : Hid (0 ≤ x ∧ x ≤ 255) := ⟨x0, x2⟩
  go_wp2_with fail
  go_loopw [5] (fun i wr => ∃ (k : Nat) (l : List UInt8), k ≤ 256 ∧ i = .int .i64 k ∧ l.length = 256 ∧ RowIn wr w.heap.size l ∧ Besides C w wr ∧ CodesOk wr C) (fun i _ => 256 - (intOf i).toNat)
  case atStart => exact ⟨0, L0, by omega, rfl, HL0.out, HR2.out, HB2.out, HC2.out⟩
  case round =>
    obtain ⟨k, l, hk, rfl, hl, hr, hb, hc⟩ := hrel
    have HL := Lib.hid hl
    have HR := Lib.hid hr
    have HB := Lib.hid hb
    have HC := Lib.hid hc
    clear hl hr hb hc
    by_cases hlt : k < 256
    · have hki : (k : Int) < 256 := by omega
      have c0 := HR.out.cell k (by rw [HL.out]; exact hlt)
      have f0 := HR.out.frozen k
      generalize l[k]'(by rw [HL.out]; exact hlt) = old at c0
      have hkw : IntKind.i64.wrap ((k : Int) + 1) = (k : Int) + 1 := IntWalk.i64_in _ (by omega)
      go_wp2_with fail
      go_roundw
      case rel => exact ⟨k + 1, l.set k (UInt8.ofNat x.toNat), by omega, rfl, by rw [List.length_set]; exact HL.out, HR.out.set k x HX.out.1 HX.out.2, HB.out.then_below ((Below.refl _ _).setCell (p := ⟨w.heap.size, k, none⟩) (Nat.le_refl _) _), HC.out.below ((Below.refl w.heap.size wr).setCell (p := ⟨w.heap.size, k, none⟩) (Nat.le_refl _) _) HCB.out⟩
      case measure => simp [intOf]; omega
    · have hki : ¬ (k : Int) < 256 := by omega
      go_wp2_with fail
      refine (next_any C 256 _ HC.out (by omega)).mono ?_
      rintro e w3 ⟨j, rfl, j0, j1, hb3, hc3⟩
      obtain ⟨j, rfl⟩ := Int.eq_ofNat_of_zero_le j0
      have hj : j < 256 := by omega
      have HR3 := Lib.hid (HR.out.besides hb3 HBC.out)
      have HB3 := Lib.hid (HB.out.trans hb3)
      have HC3 := Lib.hid hc3
      clear hb3 hc3 j0 j1
      go_wp2_with fail
      refine (next_any C 256 _ HC3.out (by omega)).mono ?_
      rintro e w4 ⟨y, rfl, y0, y1, hb4, hc4⟩
      have y2 : y ≤ 255 := by omega
      have HY : Hid (0 ≤ y ∧ y ≤ 255) := ⟨y0, y2⟩
      have hwy : IntKind.u8.wrap y = y := IntWalk.u8_in _ ⟨y0, y2⟩
      have hji : (j : Int) < 256 := by omega
      have HR4 := Lib.hid (HR3.out.besides hb4 HBC.out)
      have HB4 := Lib.hid (HB3.out.trans hb4)
      have HC4 := Lib.hid hc4
      have c0 := HR4.out.cell j (by rw [HL.out]; exact hj)
      have f0 := HR4.out.frozen j
      generalize l[j]'(by rw [HL.out]; exact hj) = old at c0
      have hcv := (HR4.out.set j y y0 y2).conv 256 256 (by rw [List.length_set]; exact HL.out.symm)
      clear hb4 hc4 y1
      go_wp2_with fail
      go_ret
      exact ⟨_, rfl, by show (List.toArray _).size = 256; rw [List.size_toArray, List.length_set]; exact HL.out, HB4.out.then_below ((Below.refl _ _).setCell (p := ⟨w.heap.size, j, none⟩) (Nat.le_refl _) _), HC4.out.below ((Below.refl w.heap.size w4).setCell (p := ⟨w.heap.size, j, none⟩) (Nat.le_refl _) _) HCB.out⟩
end Go.Proofs.Ythcjkbhkidijoaa
/- the walks of the reference's blanks and New -/
namespace Go.Proofs.Ythcjkbhkidijoaa
open Go.RowKit
set_option maxRecDepth 20000

theorem one_s (y : ByteArray) : ∀ u ∈ ([.string y] : List Value), u.oneCell' = true := by
  intro u hu
  obtain rfl := List.mem_singleton.1 hu
  rfl
theorem made256 : ∃ (L : List Value), (∀ w : World, Sem.run Try.prog (Instr.makeSlice 22 (.int .i64 256) (.int .i64 256)) w = .ok (.slice (some ⟨w.heap.size, 0, none⟩) 256 256) (w.alloc (.cells L.toArray 5))) ∧
    (∀ w : World, Sem.run Try.prog (convert 22 9 (.slice (some ⟨w.heap.size, 0, none⟩) 256 256)) (w.alloc (.cells L.toArray 5)) = .ok (.string blankPg) (w.alloc (.cells L.toArray 5))) := by
  refine ⟨(List.replicate 256 (0 : UInt8)).map (fun b => Value.int .u8 (b.toNat : Int)), fun w => ?_, fun w => ?_⟩
  · have hmk : Sem.run Try.prog (Instr.makeSlice 22 (.int .i64 256) (.int .i64 256)) w = .ok (.slice (some ⟨w.heap.size, 0, none⟩) 256 256) (w.alloc (.cells (madeCells #[.int .u8 0] 256) 5)) :=
      run_make_row' 22 5 (.int .u8 0) 1 Try.underlying22 info_byte rfl .i64 .i64 256 (by decide) (by decide) w
    rw [made_row] at hmk
    exact hmk
  · have hR : RowIn (w.alloc (.cells ((List.replicate 256 (0 : UInt8)).map (fun b => Value.int .u8 (b.toNat : Int))).toArray 5)) w.heap.size (List.replicate 256 (0 : UInt8)) := heap_alloc_last w _
    have := hR.conv 256 256 (len_rep 256).symm
    rw [this]
    unfold blankPg
    rw [List.toArray_replicate]
set_option linter.unusedSimpArgs false in
set_option maxHeartbeats 4000000 in
set_option maxRecDepth 20000 in
theorem blanks_any (n : Nat) (w : World) (hn : n ≤ 64) :
    Calls Try.prog 35 #[.int .i64 (n : Int)] w fun e w' => ∃ v, e = .returned v ∧ Below w.heap.size w w' ∧ w'.ownsRow w.heap.size 9 1 v (List.replicate n blankPg).length (strRow (List.replicate n blankPg)) := by
  have HUT : Hid (Try.prog.underlying 23 = some (.slice 9)) := Try.underlying23
  have HN := Lib.hid hn
  obtain ⟨L0, hmk, hcv⟩ := made256
  have HMk := Lib.hid hmk
  have HCv := Lib.hid hcv
  clear hn hmk hcv
  go_enter Try.func35, Try.ntmps35
  go_wp2_with fail
  have HS0 : Hid (Hp w [.sl (.slice none 0 0) 9 1 0 []] w) := (Hp.start w).nil 9 1
  go_loopw [3, 4] (fun sv i wr => ∃ (v : Value) (k : Nat), k ≤ n ∧ v = sv ∧ i = .int .i64 k ∧ Hp w [.sl v 9 1 (List.replicate k blankPg).length (strRow (List.replicate k blankPg))] wr) (fun _ i _ => n - (intOf i).toNat)
  case atStart => exact ⟨_, 0, by omega, rfl, rfl, HS0.out⟩
  case round =>
    obtain ⟨v, k, hk, hsv, rfl, hs⟩ := hrel
    subst hsv
    clear HS0
    have HY := Lib.hid hs
    clear hs
    by_cases hlt : k < n
    · have hki : (k : Int) < (n : Int) := by omega
      have hk0 : (0 : Int) ≤ (k : Int) := by omega
      have hkm : (k : Int) < 1000 := by have := HN.out; omega
      have hmk := HMk.out wr
      have hcv := HCv.out wr
      have hbl : ∃ B, blankPg = B := ⟨_, rfl⟩
      obtain ⟨B, hB⟩ := hbl
      rw [hB] at hcv
      have HB := Lib.hid hB
      clear hB
      go_wp2_with (first | ((with_reducible refine wpList_build_vals 23 1 elem_s HUT.out [.string B] ?_ ?_ ?_ ?_ ?_ ?_); (exact (by intro v hv; simp only [List.mem_cons, List.not_mem_nil, or_false] at hv; subst hv; rfl)); (exact Nat.succ_pos _); (simp only [List.length_cons, List.length_nil]; omega); (exact rfl); (simp only [List.map_toArray, List.map_cons, List.map_nil, List.zipIdx_cons, List.zipIdx_nil]; exact rfl); simp only [Act.put, List.setIfInBounds_toArray, List.set_cons_zero, List.set_cons_succ]) | ((with_reducible refine wpList_append_hp (((HY.out).put 5 (L0)).put 9 ([.string B])) (.tmp 10) (.tmp 13) 23 0 (v := v) (e := 9) (z := 1) (n := (List.replicate k blankPg).length) (xs := strRow (List.replicate k blankPg)) ?_ 2 (b := ((wr.alloc (.cells (L0).toArray 5)).heap.size)) (t' := 9) (ys := [.string B]) ?_ HUT.out elem_s 1 1 ?_ ?_ ?_ ?_ ?_ ?_); (exact rfl); (exact rfl); (exact rfl); (exact rfl); (exact rfl); (exact (one_s B)); (exact (by rw [List.length_replicate]; have := HN.out; omega))))
      intro v11 w11 hs hnil
      have HS12 : Hid (Hp w [.sl v11 9 1 ((List.replicate k blankPg).length + 1) ((strRow (List.replicate k blankPg)) ++ ([.string B])), .ob (wr.heap.size) 5 (L0), .ob ((wr.alloc (.cells (L0).toArray 5)).heap.size) 9 ([.string B])] w11) := hs
      clear hs
      clear HY
      generalize (wr.alloc (.cells (L0).toArray 5)).heap.size = B1 at *
      generalize wr.heap.size = B2 at *
      have HS13 : Hid (Hp w [.sl v11 9 1 ((List.replicate k blankPg).length + 1) ((strRow (List.replicate k blankPg)) ++ ([.string B]))] w11) := HS12.out.pull [0] rfl (pull_nd HS12.out.nd [0] rfl (by decide))
      clear HS12
      have HZ : Hid (Hp w [.sl v11 9 1 (List.replicate (k + 1) blankPg).length (strRow (List.replicate (k + 1) blankPg))] w11) := by
        show Hp _ _ _
        have e : strRow (List.replicate (k + 1) blankPg) = strRow (List.replicate k blankPg) ++ [.string B] := by unfold strRow; rw [List.replicate_succ', List.map_append, HB.out]; rfl
        rw [e, List.length_replicate]
        have := HS13.out
        rw [List.length_replicate] at this
        exact this
      go_wp2_with fail
      go_roundw
      case rel => exact ⟨_, k + 1, by omega, rfl, by go_num, HZ.out⟩
      case measure => simp [intOf]; omega
    · obtain rfl : k = n := by omega
      go_wp2_with fail
      go_ret
      exact ⟨_, rfl, HY.out.old, HY.out.own 0 rfl⟩
theorem blanks_k (n : Nat) (w : World) (hn : n ≤ 64) :
    Calls Try.prog 35 #[.int .i64 (n : Int)] w fun e w' => ∃ v, e = .returned v ∧ Below w.heap.size w w' ∧ w'.ownsRow w.heap.size 9 1 v n (strRow (List.replicate n blankPg)) :=
  (blanks_any n w hn).mono fun e w' ⟨v, h1, h2, h3⟩ => ⟨v, h1, h2, by rw [List.length_replicate] at h3; exact h3⟩
/-- how a function that gives a device and an error ends: it reads as x says, in memory that is new or was read before -/
def DvPost (w : World) (R0 : List Rng) (x : Dv × Int) (e : Ending) (w' : World) : Prop :=
  ∃ p u f R, e = .returned (.tuple #[.agg (dvCells p x.1 u f).toArray, .int .i64 x.2]) ∧ DvRd p u f x.1 R ∧ RdIn w' R ∧ (∀ r ∈ R, w.heap.size ≤ r.1 ∨ r ∈ R0) ∧ Below w.heap.size w w'
theorem DvPost.none {w w' : World} {R0 : List Rng} {x : Dv × Int} {n : Int} (hx : x = (dvNil, n)) (hb : Below w.heap.size w w') : DvPost w R0 x (.returned (.tuple #[.agg (dvCells nilS dvNil nilS nilS).toArray, .int .i64 n])) w' := by
  subst hx
  exact ⟨_, _, _, [], rfl, ⟨SlRd.nil _ _, SlRd.nil _ _, SlRd.nil _ _⟩, RdIn.nil _, by simp, hb⟩
theorem build_dv0 (W : World) : Sem.run Try.prog (Instr.build 27 #[]) W = .ok (.agg (dvCells nilS dvNil nilS nilS).toArray) W := by kernel_rfl
theorem build_dv1 (a : Option Addr) (n c : Nat) (W : World) : Sem.run Try.prog (Instr.build 27 #[(0, .slice a n c)]) W = .ok (.agg (dvCells (.slice a n c) dvNil nilS nilS).toArray) W := by kernel_rfl
set_option linter.unusedSimpArgs false in
set_option maxHeartbeats 4000000 in
theorem rnew_any (n : Int) (w : World) : Calls Try.prog 14 #[.int .i64 n] w (DvPost w [] (newR n)) := by
  obtain ⟨fs, hud⟩ := under_dv
  have HUD := Lib.hid hud
  clear hud
  have HS0 : Hid (Hp w [] w) := Hp.start w
  have hb0 := build_dv0
  by_cases h1 : n < 1
  · have HX := Lib.hid h1
    go_enter Try.func14, Try.ntmps14
    go_wp2_with (first | ((with_reducible refine wpList_alloc_ob 27 (dvCells nilS dvNil nilS nilS) ?_ ?_); (exact alloc_dv); simp only [Act.put, List.setIfInBounds_toArray, List.set_cons_zero, List.set_cons_succ]) | ((with_reducible refine wpList_build_v 27 (.agg (dvCells nilS dvNil nilS nilS).toArray) ?_ ?_); (intro W; simp only [List.map_toArray, List.map_cons, List.map_nil]; exact build_dv0 W); simp only [Act.put, List.setIfInBounds_toArray, List.set_cons_zero, List.set_cons_succ]) | ((with_reducible refine wpList_store_ob 27 (.tmp 2) (w.heap.size) (dvCells nilS dvNil nilS nilS) (dvCells nilS dvNil nilS nilS) 27 ?_ ?_ ?_ ?_ ?_ ?_ ?_); (exact rfl); (exact rfl); (exact ((HS0.out).put 27 (dvCells nilS dvNil nilS nilS)).get 0 rfl); (exact info_dv); (exact rfl); (exact (oneCell_dv _ _ _ _ _ _ _ _ _ _)); skip))
    have HS1 : Hid (Hp w [.ob (w.heap.size) 27 (dvCells nilS dvNil nilS nilS)] ((w.alloc (.cells (dvCells nilS dvNil nilS nilS).toArray 27)).setRow (w.heap.size) (dvCells nilS dvNil nilS nilS).toArray)) := ((HS0.out).put 27 (dvCells nilS dvNil nilS nilS)).row 0 rfl (dvCells nilS dvNil nilS nilS)
    clear HS0
    generalize ((w.alloc (.cells (dvCells nilS dvNil nilS nilS).toArray 27)).setRow (w.heap.size) (dvCells nilS dvNil nilS nilS).toArray) = w3 at *
    refine bodyPost_ret (results_ob_tmp Try.results14 _ _ (w.heap.size) (dvCells nilS dvNil nilS nilS) 27 _ rfl (HS1.out.get 0 rfl) HUD.out rfl info_dv) rfl ?_
    exact DvPost.none (by unfold newR; rw [if_pos (by exact .inl HX.out)]) HS1.out.old
  by_cases h2 : 64 < n
  · have HX := Lib.hid h2
    go_enter Try.func14, Try.ntmps14
    go_wp2_with (first | ((with_reducible refine wpList_alloc_ob 27 (dvCells nilS dvNil nilS nilS) ?_ ?_); (exact alloc_dv); simp only [Act.put, List.setIfInBounds_toArray, List.set_cons_zero, List.set_cons_succ]) | ((with_reducible refine wpList_build_v 27 (.agg (dvCells nilS dvNil nilS nilS).toArray) ?_ ?_); (intro W; simp only [List.map_toArray, List.map_cons, List.map_nil]; exact build_dv0 W); simp only [Act.put, List.setIfInBounds_toArray, List.set_cons_zero, List.set_cons_succ]) | ((with_reducible refine wpList_store_ob 27 (.tmp 2) (w.heap.size) (dvCells nilS dvNil nilS nilS) (dvCells nilS dvNil nilS nilS) 27 ?_ ?_ ?_ ?_ ?_ ?_ ?_); (exact rfl); (exact rfl); (exact ((HS0.out).put 27 (dvCells nilS dvNil nilS nilS)).get 0 rfl); (exact info_dv); (exact rfl); (exact (oneCell_dv _ _ _ _ _ _ _ _ _ _)); skip))
    have HS1 : Hid (Hp w [.ob (w.heap.size) 27 (dvCells nilS dvNil nilS nilS)] ((w.alloc (.cells (dvCells nilS dvNil nilS nilS).toArray 27)).setRow (w.heap.size) (dvCells nilS dvNil nilS nilS).toArray)) := ((HS0.out).put 27 (dvCells nilS dvNil nilS nilS)).row 0 rfl (dvCells nilS dvNil nilS nilS)
    clear HS0
    generalize ((w.alloc (.cells (dvCells nilS dvNil nilS nilS).toArray 27)).setRow (w.heap.size) (dvCells nilS dvNil nilS nilS).toArray) = w3 at *
    refine bodyPost_ret (results_ob_tmp Try.results14 _ _ (w.heap.size) (dvCells nilS dvNil nilS nilS) 27 _ rfl (HS1.out.get 0 rfl) HUD.out rfl info_dv) rfl ?_
    exact DvPost.none (by unfold newR; rw [if_pos (by exact .inr HX.out)]) HS1.out.old
  · obtain ⟨k, rfl⟩ := Int.eq_ofNat_of_zero_le (show 0 ≤ n by omega)
    have HK : Hid (k ≤ 64) := by show _ ≤ _; omega
    have HX : Hid (newR (k : Int) = (⟨List.replicate k blankPg, 0, [], false, []⟩, 0)) := by
      show _ = _
      unfold newR
      rw [if_neg (by omega), Int.toNat_natCast]
    go_enter Try.func14, Try.ntmps14
    go_wp2_with (first | ((with_reducible refine wpList_alloc_ob 27 (dvCells nilS dvNil nilS nilS) ?_ ?_); (exact alloc_dv); simp only [Act.put, List.setIfInBounds_toArray, List.set_cons_zero, List.set_cons_succ]))
    refine (blanks_k k _ HK.out).mono ?_
    rintro e w3 ⟨v, rfl, hb, ho⟩
    have HS1 : Hid (Hp w [.ob (w.heap.size) 27 (dvCells nilS dvNil nilS nilS), .sl v 9 1 (k) (strRow (List.replicate k blankPg))] w3) := ((HS0.out).put 27 (dvCells nilS dvNil nilS nilS)).addown hb ho
    clear hb ho
    clear HS0
    obtain ⟨R, hrd, _, _⟩ := own_reads (HS1.out.own 1 rfl)
    obtain ⟨a, c, rfl, _⟩ := hrd
    go_wp2_with (first | ((with_reducible refine wpList_build_v 27 (.agg (dvCells (.slice a k c) dvNil nilS nilS).toArray) ?_ ?_); (intro W; simp only [List.map_toArray, List.map_cons, List.map_nil]; exact build_dv1 _ _ _ W); simp only [Act.put, List.setIfInBounds_toArray, List.set_cons_zero, List.set_cons_succ]) | ((with_reducible refine wpList_store_ob 27 (.tmp 2) (w.heap.size) (dvCells (.slice a k c) dvNil nilS nilS) (dvCells nilS dvNil nilS nilS) 27 ?_ ?_ ?_ ?_ ?_ ?_ ?_); (exact rfl); (exact rfl); (exact (HS1.out).get 0 rfl); (exact info_dv); (exact rfl); (exact (oneCell_dv _ _ _ _ _ _ _ _ _ _)); skip))
    have HS2 : Hid (Hp w [.ob (w.heap.size) 27 (dvCells (.slice a k c) dvNil nilS nilS), .sl ((.slice a k c)) 9 1 (k) (strRow (List.replicate k blankPg))] (w3.setRow (w.heap.size) (dvCells (.slice a k c) dvNil nilS nilS).toArray)) := (HS1.out).row 0 rfl (dvCells (.slice a k c) dvNil nilS nilS)
    clear HS1
    generalize (w3.setRow (w.heap.size) (dvCells (.slice a k c) dvNil nilS nilS).toArray) = w4 at *
    refine bodyPost_ret (results_ob_tmp Try.results14 _ _ (w.heap.size) (dvCells (.slice a k c) dvNil nilS nilS) 27 _ rfl (HS2.out.get 0 rfl) HUD.out rfl info_dv) rfl ?_
    obtain ⟨R', hrd', hin', hnew'⟩ := own_reads (HS2.out.own 1 rfl)
    rw [HX.out]
    exact ⟨.slice a k c, nilS, nilS, R', rfl, ⟨by show SlRd _ 1 (List.replicate k blankPg).length _ R'; rw [List.length_replicate]; exact hrd', SlRd.nil _ _, SlRd.nil _ _⟩, hin', fun r hr => .inl (hnew' r hr).1, HS2.out.old⟩
end Go.Proofs.Ythcjkbhkidijoaa
/- the library's Repeat of one text, and the program's blanks -/
namespace Go.Proofs.Ythcjkbhkidijoaa
open Go.RowKit
set_option maxRecDepth 20000
set_option linter.unusedSimpArgs false
set_option linter.unusedVariables false

theorem info_str : (Try.prog.info? 9).map (fun i => (i.zero, i.size, i.bytes)) = some (some (.string ⟨#[]⟩), 1, 16) := by kernel_rfl
theorem info_str1 : (Try.prog.info? 9).map (·.size) = some 1 := by kernel_rfl
theorem make_strs (n : Nat) (hn : n ≤ 64) (W : World) : Sem.run Try.prog (Instr.makeSlice 23 (.int .i64 (n : Int)) (.int .i64 (n : Int))) W = .ok (.slice (some ⟨W.heap.size, 0, none⟩) n n) (W.alloc (.cells (Array.replicate n (Value.string ⟨#[]⟩)) 9)) := by
  have h : Sem.run Try.prog (Instr.makeSlice 23 (.int .i64 (n : Int)) (.int .i64 (n : Int))) W = .ok (.slice (some ⟨W.heap.size, 0, none⟩) n n) (W.alloc (.cells (madeCells #[.string ⟨#[]⟩] n) 9)) :=
    run_make_row' 23 9 (.string ⟨#[]⟩) 16 Try.underlying23 info_str rfl .i64 .i64 n (by omega) (by omega) W
  rw [h]
  have e : madeCells #[.string ⟨#[]⟩] n = (Array.replicate n (Value.string ⟨#[]⟩)) := by
    apply Array.toList_inj.1
    rw [toList_madeCells_one, Array.toList_replicate]
  rw [e]
/-- the row while it is filled: k of n -/
def repRow (B : ByteArray) (k n : Nat) : List Value := List.replicate k (.string B) ++ List.replicate (n - k) (.string ⟨#[]⟩)
theorem repRow_len {B : ByteArray} {k n : Nat} (h : k ≤ n) : (repRow B k n).length = n := by unfold repRow; rw [List.length_append, List.length_replicate, List.length_replicate]; omega
theorem repRow_step {B : ByteArray} {k n m : Nat} (h : k + m ≤ n) : splice (repRow B k n) k (List.replicate m (.string B)) = repRow B (k + m) n := by
  unfold splice repRow
  rw [List.take_append_of_le_length (by simp), List.take_of_length_le (by simp), List.length_replicate, List.drop_append, List.length_replicate, List.drop_of_length_le (by simp), List.nil_append, List.drop_replicate, ← List.append_assoc, List.replicate_append_replicate]
  congr 2
  omega
theorem repRow_at {B : ByteArray} {k n j : Nat} (h : j < k) : (repRow B k n)[j]? = some (.string B) := by
  unfold repRow
  rw [List.getElem?_append_left (by simp [h]), List.getElem?_replicate, if_pos h]
theorem one_src {W : World} {b : Nat} {v : Value} (h : W.cell? ⟨b, 0, none⟩ = some v) : ∀ j u, [v][j]? = some u → W.cell? ((⟨b, 0, none⟩ : Addr).add j) = some u := fun j u hj => by
  have h0 := (List.getElem?_eq_some_iff.1 hj).1
  have h1 : j = 0 := by simp only [List.length_cons, List.length_nil] at h0; omega
  subst h1
  have h2 : v = u := by simpa using hj
  rw [← h2, Addr.add_mid]
  exact h
theorem row_src {W : World} {g : Nat} {cur cs : List Value} {t : TypeId} (h : W.heap[g]? = some (.cells cur.toArray t (0, 0))) (o : Nat) (hc : ∀ j u, cs[j]? = some u → cur[o + j]? = some u) : ∀ j u, cs[j]? = some u → W.cell? ((⟨g, o, none⟩ : Addr).add j) = some u := fun j u hj => by
  rw [Addr.add_mid, cell_of_row W g (o + j) _ _ _ h, List.getElem?_toArray]
  exact hc j u hj
set_option maxHeartbeats 8000000 in
theorem repeat_any (b0 : Nat) (B : ByteArray) (n : Nat) (h1 : 1 ≤ n) (hn : n ≤ 64) (w : World) (hc : w.cell? ⟨b0, 0, none⟩ = some (.string B)) (hb0 : b0 < w.heap.size) :
    Calls Try.prog 58 #[.slice (some ⟨b0, 0, none⟩) 1 1, .int .i64 n] w fun e w' => e = .returned (.slice (some ⟨w.heap.size, 0, none⟩) n n) ∧ w'.heap[w.heap.size]? = some (.cells (List.replicate n (.string B)).toArray 9 (0, 0)) ∧ Below w.heap.size w w' := by
  have HUT : Hid (Try.prog.underlying 23 = some (.slice 9)) := Try.underlying23
  have hmul := mul_any n hn w
  have hmk := make_strs n hn w
  have HC := Lib.hid hc
  have hn0 : ¬ (n : Int) < 0 := by omega
  have hnm : ¬ (9223372036854775807 < (n : Int)) := by omega
  have hw1 : IntKind.u64.wrap (n : Int) = n := by rw [IntKind.wrap_u64]; omega
  have hw2 : IntKind.i64.wrap (n : Int) = n := by rw [IntKind.wrap_i64]; omega
  have HN : Hid (1 ≤ n ∧ n ≤ 64) := ⟨h1, hn⟩
  have HG0 : Hid ((w.alloc (.cells (Array.replicate n (Value.string ⟨#[]⟩)) 9)).heap[w.heap.size]? = some (.cells (repRow B 0 n).toArray 9 (0, 0))) := by
    show _ = _
    rw [heap_alloc_last, ← List.toArray_replicate]
    rfl
  have HB0 : Hid (Below w.heap.size w (w.alloc (.cells (Array.replicate n (Value.string ⟨#[]⟩)) 9))) := (Below.refl _ _).alloc (Nat.le_refl _) _
  have HC2 : Hid ((w.alloc (.cells (Array.replicate n (Value.string ⟨#[]⟩)) 9)).cell? ⟨b0, 0, none⟩ = some (.string B)) := (HB0.out.cell (p := ⟨b0, 0, none⟩) hb0).trans hc
  clear hc h1 hn
  go_enter Try.func58, Try.ntmps58
  go_wp2_with (first | (go_at_call 74; refine hmul.mono ?_; rintro e w2 ⟨rfl, rfl⟩) | ((with_reducible refine wpList_copy_splice rfl (.tmp 31) (.tmp 32) 23 23 rfl 9 HUT.out info_str1 (some ⟨w2.heap.size, 0, none⟩) (some ⟨b0, 0, none⟩) n n 1 1 rfl rfl w2.heap.size 0 (repRow B 0 n) 9 HG0.out [.string B] ?_ ?_ ?_ ?_ w2.heap.size w2 HB0.out (Nat.le_refl _) ?_); (exact (by have := HN.out; simp only [List.length_cons, List.length_nil, Nat.min_def]; split <;> omega)); (exact fun _ => ⟨rfl, _, rfl, one_src HC2.out⟩); (exact (by rw [repRow_len (Nat.zero_le _)]; have := HN.out; simp only [List.length_cons, List.length_nil]; omega)); (exact one_s B)))
  intro w3 hg3 hb3
  have HG3 : Hid (w3.heap[w2.heap.size]? = some (.cells (repRow B 1 n).toArray 9 (0, 0))) := by
    have h := hg3.out
    rw [show ([Value.string B] : List Value) = List.replicate 1 (.string B) from rfl, repRow_step (by have := HN.out; omega)] at h
    exact h
  have HB3 := Lib.hid hb3
  clear hg3 hb3 HG0 HB0 HC2
  go_wp2_with fail
  go_loopw [8] (fun i wr => ∃ k : Nat, 1 ≤ k ∧ k ≤ n ∧ i = .int .i64 k ∧ wr.heap[w2.heap.size]? = some (.cells (repRow B k n).toArray 9 (0, 0)) ∧ Below w2.heap.size w2 wr) (fun i _ => n - (intOf i).toNat)
  case atStart => exact ⟨1, by omega, by have := HN.out; omega, rfl, HG3.out, HB3.out⟩
  case round =>
    obtain ⟨k, hk1, hk, rfl, hg, hb⟩ := hrel
    have HG := Lib.hid hg
    have HB := Lib.hid hb
    clear hg hb HG3 HB3
    by_cases hlt : k < n
    · have hki : (k : Int) < (n : Int) := by omega
      have hk0 : (0 : Int) ≤ (k : Int) := by omega
      have hkn : ¬ (n = k) := by omega
      have hkm : (k : Int) < 1000 := by have := HN.out; omega
      have hkl : (k : Int) ≤ (n : Int) := by omega
      obtain ⟨m, hm⟩ : ∃ m, m = Nat.min k (n - k) := ⟨_, rfl⟩
      have HM : Hid (m = Nat.min k (n - k)) := hm
      have HMn : Hid (1 ≤ m ∧ k + m ≤ n) := by
        show _ ∧ _
        rw [hm]
        simp only [Nat.min_def]
        split <;> omega
      clear hm
      have H1 : Hid ((List.replicate m (Value.string B)).length = Nat.min k (n - k)) := by show _ = _; rw [List.length_replicate, HM.out]
      have H2 : Hid (∀ j v, (List.replicate m (Value.string B))[j]? = some v → wr.drew.cell? ((⟨w2.heap.size, 0, none⟩ : Addr).add j) = some v) := row_src (W := wr.drew) HG.out 0 (fun j v hj => by
        have hjm := (List.getElem?_eq_some_iff.1 hj).1
        rw [List.length_replicate] at hjm
        rw [List.getElem?_replicate, if_pos hjm] at hj
        rw [Nat.zero_add, repRow_at (by have h := HM.out; simp only [Nat.min_def] at h; split at h <;> omega)]
        exact hj)
      have H3 : Hid (k + (List.replicate m (Value.string B)).length ≤ (repRow B k n).length) := by show _ ≤ _; rw [List.length_replicate, repRow_len hk]; exact HMn.out.2
      have H4 : Hid (∀ v ∈ List.replicate m (Value.string B), v.oneCell' = true) := fun v hv => by rw [List.eq_of_mem_replicate hv]; rfl
      have hw3 : IntKind.i64.wrap ((k : Int) + (m : Int)) = ((k + m : Nat) : Int) := by rw [IntKind.wrap_i64]; have := HMn.out; have := HN.out; omega
      go_wp2_with fail
      go_region_law (refine step_copy_splice rfl (.tmp 41) (.tmp 44) 23 23 rfl 9 HUT.out info_str1 (some ⟨w2.heap.size, k, none⟩) (some ⟨w2.heap.size, 0, none⟩) (n - k) (n - k) k n (by simp [Act.eval, Act.put]) (by simp [Act.eval, Act.put]) w2.heap.size k (repRow B k n) 9 HG.out (List.replicate m (.string B)) H1.out (fun _ => ⟨rfl, _, rfl, H2.out⟩) H3.out H4.out w2.heap.size w2 HB.out.drew (Nat.le_refl _) ?_; intro w4 hg4 hb4)
      have HG4 : Hid (w4.heap[w2.heap.size]? = some (.cells (repRow B (k + m) n).toArray 9 (0, 0))) := by
        have h := hg4.out
        rw [repRow_step HMn.out.2] at h
        exact h
      have HB4 := Lib.hid hb4
      have hl : (List.replicate m (Value.string B)).length = m := List.length_replicate
      clear hg4 hb4 H1 H2 H3 H4
      simp only [Act.put, List.getElem_toArray, List.getElem_cons_succ, List.getElem_cons_zero, List.setIfInBounds_toArray, List.set_cons_succ, List.set_cons_zero]
      go_wp2_with fail
      go_roundw
      case rel => exact ⟨k + m, by omega, HMn.out.2, by go_num, HG4.out, HB4.out⟩
      case measure => have := HMn.out; simp [intOf]; omega
    · obtain rfl : k = n := by omega
      go_wp2_with fail
      go_ret
      have h := HG.out
      unfold repRow at h
      rw [Nat.sub_self, List.replicate_zero, List.append_nil] at h
      exact ⟨rfl, h, HB.out⟩
end Go.Proofs.Ythcjkbhkidijoaa
/- the walks of the reference's lists of numbers -/
namespace Go.Proofs.Ythcjkbhkidijoaa
open Go.RowKit
set_option maxRecDepth 20000

theorem without_take {l : List Int} {n : Int} {k : Nat} (h : k < l.length) : withoutR (l.take (k + 1)) n = withoutR (l.take k) n ++ (if l[k] = n then [] else [l[k]]) := by
  unfold withoutR
  rw [List.take_succ_eq_append_getElem h, List.filter_append]
  congr 1
  by_cases e : l[k] = n <;> simp [e]
theorem without_len (l : List Int) (n : Int) : (withoutR l n).length ≤ l.length := List.length_filter_le _ _
theorem one_i (y : Int) : ∀ u ∈ ([.int .i64 y] : List Value), u.oneCell' = true := by
  intro u hu
  obtain rfl := List.mem_singleton.1 hu
  rfl
set_option maxHeartbeats 4000000 in
set_option maxRecDepth 20000 in
theorem without_any (l : List Int) (n : Int) (v : Value) (R : List Rng) (w : World) (hv : SlRd v 1 l.length (intRow l) R) (hR : RdIn w R) (hl : l.length ≤ 1000) :
    Calls Try.prog 65 #[v, .int .i64 n] w fun e w' => ∃ u, e = .returned u ∧ Below w.heap.size w w' ∧ w'.ownsRow w.heap.size 3 1 u (withoutR l n).length (intRow (withoutR l n)) := by
  obtain ⟨a, cap, rfl, hnc, hcm, hg⟩ := hv.open hR
  have HC : Hid (l.length ≤ cap ∧ cap ≤ maxLen) := ⟨hnc, hcm⟩
  have HL := Lib.hid hl
  have HUI : Hid (Try.prog.underlying 24 = some (.slice 3)) := Try.underlying24
  clear hv hR hnc hcm hl
  go_enter Try.func65, Try.ntmps65
  go_wp2_with fail
  have HS0 : Hid (Hp w [.sl (.slice none 0 0) 3 1 0 []] w) := (Hp.start w).nil 3 1
  go_loopw [5, 6] (fun sv i wr => ∃ (v : Value) (k : Nat), k ≤ l.length ∧ v = sv ∧ i = .int .i64 k ∧ Hp w [.sl v 3 1 (withoutR (l.take k) n).length (intRow (withoutR (l.take k) n))] wr) (fun _ i _ => l.length - (intOf i).toNat)
  case atStart => exact ⟨_, 0, by omega, rfl, rfl, HS0.out⟩
  case round =>
    obtain ⟨v, k, hk, hsv, rfl, hs⟩ := hrel
    subst hsv
    clear HS0
    have HY := Lib.hid hs
    clear hs
    by_cases hlt : k < l.length
    · obtain ⟨g, off, rfl, hr⟩ := hg.out (by omega)
      have hc : wr.cell? ⟨g, off + k, none⟩ = some (.int .i64 l[k]) := hr wr HY.out.old k _ (intRow_at l k hlt)
      have hki : (k : Int) < (l.length : Int) := by omega
      have hk0 : (0 : Int) ≤ (k : Int) := by omega
      have hkm : (k : Int) < 1000 := by have := HL.out; omega
      have hst := without_take (n := n) hlt
      by_cases hx : l[k] = n
      · rw [if_pos hx, List.append_nil] at hst
        have HX := Lib.hid hst
        have hxb : (l[k] != n) = false := by simp [hx]
        clear hr hx hg hst
        generalize l[k] = y at *
        go_wp2_with fail
        go_roundw
        case rel => exact ⟨_, k + 1, by omega, rfl, by go_num, by rw [HX.out]; exact HY.out⟩
        case measure => simp [intOf]; omega
      · rw [if_neg hx] at hst
        have HX := Lib.hid hst
        have hxb : (l[k] != n) = true := by simp [hx]
        have HLn : Hid ((withoutR (l.take k) n).length ≤ 1000) := by
          have := without_len (l.take k) n
          rw [List.length_take] at this
          have := HL.out
          show _ ≤ _
          omega
        have HG : Hid (∀ W, Below w.heap.size w W → W.cell? ⟨g, off + k, none⟩ = some (.int .i64 l[k])) := fun W hb => hr W hb k _ (intRow_at l k hlt)
        clear hr hx hg hst
        generalize l[k] = y at *

        go_wp2_with (first | ((with_reducible refine wpList_build_vals 24 1 elem_i HUI.out [.int .i64 y] ?_ ?_ ?_ ?_ ?_ ?_); (exact (by intro v hv; simp only [List.mem_cons, List.not_mem_nil, or_false] at hv; subst hv; rfl)); (exact Nat.succ_pos _); (simp only [List.length_cons, List.length_nil]; omega); (exact rfl); (simp only [List.map_toArray, List.map_cons, List.map_nil, List.zipIdx_cons, List.zipIdx_nil]; exact rfl); simp only [Act.put, List.setIfInBounds_toArray, List.set_cons_zero, List.set_cons_succ]) | ((with_reducible refine wpList_append_hp ((HY.out).put 3 ([.int .i64 y])) (.tmp 19) (.tmp 24) 24 0 (v := v) (e := 3) (z := 1) (n := (withoutR (l.take k) n).length) (xs := intRow (withoutR (l.take k) n)) ?_ 1 (b := (wr.heap.size)) (t' := 3) (ys := [.int .i64 y]) ?_ HUI.out elem_i 1 1 ?_ ?_ ?_ ?_ ?_ ?_); (exact rfl); (exact rfl); (exact rfl); (exact rfl); (exact rfl); (exact (one_i y)); (exact (by have := HLn.out; omega))))
        intro v11 w11 hs hnil
        have HS12 : Hid (Hp w [.sl v11 3 1 ((withoutR (l.take k) n).length + 1) ((intRow (withoutR (l.take k) n)) ++ ([.int .i64 y])), .ob (wr.heap.size) 3 ([.int .i64 y])] w11) := hs
        clear hs
        clear HY
        generalize wr.heap.size = B1 at *

        have HS13 : Hid (Hp w [.sl v11 3 1 ((withoutR (l.take k) n).length + 1) ((intRow (withoutR (l.take k) n)) ++ ([.int .i64 y]))] w11) := HS12.out.pull [0] rfl (pull_nd HS12.out.nd [0] rfl (by decide))
        clear HS12
        have HZ : Hid (Hp w [.sl v11 3 1 (withoutR (l.take (k + 1)) n).length (intRow (withoutR (l.take (k + 1)) n))] w11) := by
          show Hp _ _ _
          rw [HX.out, List.length_append]
          have e : intRow (withoutR (l.take k) n ++ [y]) = intRow (withoutR (l.take k) n) ++ [.int .i64 y] := by unfold intRow; rw [List.map_append]; rfl
          rw [e]
          exact HS13.out
        go_wp2_with fail
        go_roundw
        case rel => exact ⟨_, k + 1, by omega, rfl, by go_num, HZ.out⟩
        case measure => simp [intOf]; omega
    · obtain rfl : k = l.length := by omega
      rw [List.take_length] at HY
      go_wp2_with fail
      go_ret
      exact ⟨_, rfl, HY.out.old, HY.out.own 0 rfl⟩
end Go.Proofs.Ythcjkbhkidijoaa
/- the library's Insert of one number -/
namespace Go.Proofs.Ythcjkbhkidijoaa
open Go.RowKit
set_option maxRecDepth 20000
set_option linter.unusedSimpArgs false
set_option linter.unusedVariables false

def insI (l : List Int) (i : Nat) (t : Int) : List Int := l.take i ++ t :: l.drop i
theorem insI_len (l : List Int) (i : Nat) (t : Int) : (insI l i t).length = l.length + 1 := by
  unfold insI
  rw [List.length_append, List.length_cons, List.length_take, List.length_drop]
  omega
/-- how an insertion ends -/
def InsPost (B0 : Nat) (w : World) (v : Value) (m : List Int) (e : Ending) (w' : World) : Prop :=
  ∃ u, e = .returned u ∧ w'.ownsRow B0 3 1 u m.length (intRow m) ∧ w.grownBy w' v.ownBlock ∧ (u.ownBlock = v.ownBlock ∨ u.ownBlock = some w.heap.size)
theorem info_int1 : (Try.prog.info? 3).map (·.size) = some 1 := by kernel_rfl
theorem info_int : (Try.prog.info? 3).map (fun i => (i.zero, i.size, i.bytes)) = some (some (.int .i64 0), 1, 8) := by kernel_rfl
set_option maxHeartbeats 8000000 in
theorem insert_end (l : List Int) (t : Int) (v : Value) (B0 vb : Nat) (w : World) (own : w.ownsRow B0 3 1 v l.length (intRow l)) (hvb : w.cell? ⟨vb, 0, none⟩ = some (.int .i64 t)) (hB0 : B0 ≤ w.heap.size) (hl : l.length ≤ 1000) :
    Calls Try.prog 64 #[v, .int .i64 l.length, .slice (some ⟨vb, 0, none⟩) 1 1] w (InsPost B0 w v (l ++ [t])) := by
  obtain ⟨inf, zv, hi, hz, hsize, hby, hzs⟩ := elem_i.is
  obtain ⟨v', w', hr, h2, h3, h4, h5⟩ := run_append_own_at (P := Try.prog) w B0 24 24 3 inf zv 1 8 Try.underlying24 hi hz hsize hby hzs (by decide) v l.length (intRow l) own ⟨vb, 0, none⟩ 1 1 [.int .i64 t] rfl (one_src hvb) (one_i t) (by unfold maxLen; omega) (by omega) hB0
  have HE : Hid (InsPost B0 w v (l ++ [t]) (.returned v') w') := ⟨v', rfl, by
    have e : intRow (l ++ [t]) = intRow l ++ [.int .i64 t] := by unfold intRow; rw [List.map_append]; rfl
    rw [e, List.length_append]
    exact h2, h3, h5⟩
  have HL := Lib.hid hl
  rcases own.2 with ⟨rfl, h0⟩ | ⟨g, cap, cur, rfl, hB, hg, h1, hc2, hc3, hc4⟩
  · rw [h0]
    clear own hvb hB0 hl h2 h3 h4 h5 h0 hi hz hsize hby hzs
    go_enter Try.func64, Try.ntmps64
    go_wp2_with (at_builtin; refine Lib.wpList_append_run _ rfl _ _ _ _ rfl _ _ rfl rfl _ _ hr ?_)
    go_ret
    exact HE.out
  · have hcap : l.length ≤ cap := h1
    have hn0 : (0 : Int) ≤ (l.length : Int) := by omega
    clear own hvb hB0 hl h2 h3 h4 h5 hi hz hsize hby hzs hB hg h1 hc2 hc3 hc4
    by_cases hcn : cap = l.length
    · subst hcn
      go_enter Try.func64, Try.ntmps64
      go_wp2_with (at_builtin; refine Lib.wpList_append_run _ rfl _ _ _ _ rfl _ _ rfl rfl _ _ hr ?_)
      go_ret
      exact HE.out
    · go_enter Try.func64, Try.ntmps64
      go_wp2_with (at_builtin; refine Lib.wpList_append_run _ rfl _ _ _ _ rfl _ _ rfl rfl _ _ hr ?_)
      go_ret
      exact HE.out
theorem step_copy_row {P : Program} {ops : Array Oper} {o : Oper} {a : Act} {w : World} {K : Act → World → Prop} {Q : Exit → Act → World → Prop} {E : Prop} (hgd : o.guard = none) (d s : Operand) (dT sT : TypeId)
    (ho : o.op = .call { callee := .builtin .copy, args := #[d, s], argTypes := #[dT, sT] }) (elem : TypeId) (hu : P.underlying dT = some (.slice elem)) (hsz : (P.info? elem).map (·.size) = some 1)
    (g off dLen dCap : Nat) (ad : Addr) (sLen sCap : Nat) (hd : a.eval d = .slice (some ⟨g, off, none⟩) dLen dCap) (hs : a.eval s = .slice (some ad) sLen sCap)
    (cur : List Value) (t : TypeId) (hg : w.heap[g]? = some (.cells cur.toArray t (0, 0))) (cs : List Value) (hn : cs.length = Nat.min sLen dLen)
    (hsrc : ∀ j v, cs[j]? = some v → w.cell? (ad.add j) = some v) (hfit : off + cs.length ≤ cur.length) (h1 : ∀ v ∈ cs, v.oneCell' = true)
    (h : ∀ w', Hid (w' = w.setRow g (splice cur off cs).toArray) → K (a.put o.dst (goInt cs.length)) w') :
    if Region.wanted o (yielded ops a.tmps) = true then Oper.wp P o a w K Q else E := by
  have hw : Region.wanted o (yielded ops a.tmps) = true := by simp [Region.wanted, hgd]
  rw [if_pos hw]
  have hrun := run_copy_row (P := P) w dT sT o.type elem g off dLen dCap ad sLen sCap cur.toArray t cs hu hsz hg hn hsrc (by simpa using hfit) h1
  unfold Oper.wp
  simp [execOp, ho, resolve, invoke, builtin, hd, hs, hrun, Result.andThen]
  exact h _ (show _ = _ by unfold splice; simp)
theorem wpList_copy_row {P : Program} {w : World} {ops : Array Oper} {rest : List Oper} {o : Oper} {a : Act} {Q : Exit → Act → World → Prop} (hgd : o.guard = none) (d s : Operand) (dT sT : TypeId)
    (ho : o.op = .call { callee := .builtin .copy, args := #[d, s], argTypes := #[dT, sT] }) (elem : TypeId) (hu : P.underlying dT = some (.slice elem)) (hsz : (P.info? elem).map (·.size) = some 1)
    (g off dLen dCap : Nat) (ad : Addr) (sLen sCap : Nat) (hd : a.eval d = .slice (some ⟨g, off, none⟩) dLen dCap) (hs : a.eval s = .slice (some ad) sLen sCap)
    (cur : List Value) (t : TypeId) (hg : w.heap[g]? = some (.cells cur.toArray t (0, 0))) (cs : List Value) (hn : cs.length = Nat.min sLen dLen)
    (hsrc : ∀ j v, cs[j]? = some v → w.cell? (ad.add j) = some v) (hfit : off + cs.length ≤ cur.length) (h1 : ∀ v ∈ cs, v.oneCell' = true)
    (h : ∀ w', Hid (w' = w.setRow g (splice cur off cs).toArray) → wpList P ops Q rest (a.put o.dst (goInt cs.length)) w') : wpList P ops Q (o :: rest) a w := by
  refine wpList_copy_own hgd d s dT sT ho elem hu hsz g off dLen dCap ad sLen sCap hd hs cur.toArray t hg cs hn hsrc (by simpa using hfit) h1 ?_
  exact h _ (show _ = _ by unfold splice; simp)
theorem splice_mid {α : Type} {A X R C : List α} (h : X.length = C.length) {o : Nat} (ho : A.length = o) : splice (A ++ (X ++ R)) o C = A ++ (C ++ R) := by
  subst ho
  unfold splice
  rw [List.take_append_of_le_length (Nat.le_refl _), List.take_of_length_le (Nat.le_refl _), List.drop_append, List.drop_of_length_le (by omega), List.nil_append, Nat.add_sub_cancel_left, ← h, List.drop_append, List.drop_of_length_le (Nat.le_refl _), List.nil_append, Nat.sub_self, List.drop_zero]
theorem ins_rows (l : List Int) (i : Nat) (t : Int) (x : Value) (rest : List Value) (hil : i < l.length) :
    splice (splice (encRow encI l ++ (x :: rest)) (i + 1) (encRow encI (l.drop i))) i (encRow encI [t]) = encRow encI (insI l i t) ++ rest := by
  have lA : (encRow encI (l.take i)).length = i := by rw [encRow_len encI_len, List.length_take, Nat.mul_one, Nat.min_eq_left (by omega)]
  have e0 : l = l.take i ++ (l[i] :: l.drop (i + 1)) := by rw [List.getElem_cons_drop, List.take_append_drop]
  have eD : l.drop i = l[i] :: l.drop (i + 1) := (List.getElem_cons_drop hil).symm
  have e1 : encRow encI l ++ (x :: rest) = (encRow encI (l.take i) ++ encI l[i]) ++ ((encRow encI (l.drop (i + 1)) ++ [x]) ++ rest) := by
    conv => lhs; rw [e0]
    rw [encRow_append]
    show encRow encI (l.take i) ++ (encI l[i] ++ encRow encI (l.drop (i + 1))) ++ (x :: rest) = _
    simp
  have lD : (encRow encI (l.drop i)).length = l.length - i := by rw [encRow_len encI_len, List.length_drop, Nat.mul_one]
  rw [e1, splice_mid (by rw [List.length_append, encRow_len encI_len, List.length_drop, lD]; simp; omega) (by rw [List.length_append, lA, encI_len]), List.append_assoc, splice_mid (by rw [encRow_len encI_len, encI_len]; rfl) lA]
  unfold insI
  rw [encRow_append]
  show _ = (encRow encI (l.take i) ++ (encI t ++ encRow encI (l.drop i))) ++ rest
  show encRow encI (l.take i) ++ ((encI t ++ []) ++ _) = _
  simp
theorem sizeOf_int (W : World) : (Go.sizeOf 3).run Try.prog W = .ok 1 W := by kernel_rfl
theorem overlaps_no (t : Value) (vb g o c1 c2 : Nat) (cur : Array Value) (W : World) (hvb : W.heap[vb]? = some (.cells #[t] 3 (0, 0))) (hg : W.heap[g]? = some (.cells cur 3 (0, 0))) (hne : vb ≠ g) (h0 : cur.size ≠ 0) :
    (callFunc 77 #[.slice (some ⟨vb, 0, none⟩) 1 1, .slice (some ⟨g, o, none⟩) c1 c2]).run Try.prog W = .ok (.value (.bool false)) W := by
  rw [run_callFunc_extern Try.func77 (by kernel_rfl) (by kernel_rfl) (by kernel_rfl) (e := Extern.SlicesOverlaps.overlaps #[24, 24] #[4]) (by kernel_rfl),
    Lib.run_overlaps_apart W 24 4 3 Try.underlying24 1 sizeOf_int ⟨vb, 0, none⟩ ⟨g, o, none⟩ 1 1 c1 c2 hne 3 3 1 cur.size (by unfold World.shape?; rw [hvb]; rfl) (by unfold World.shape?; rw [hg]) h0 (frozen_of_row _ _ _ _ _ hvb) (frozen_of_row _ _ _ _ _ hvb)]
  rfl
set_option maxHeartbeats 8000000 in
theorem insert_room (l : List Int) (t : Int) (i g cap vb : Nat) (rest : List Value) (x : Value) (B0 : Nat) (w : World) (hil : i < l.length) (hB : B0 ≤ g) (hg : w.heap[g]? = some (.cells (encRow encI l ++ (x :: rest)).toArray 3 (0, 0))) (hlen : (encRow encI l ++ (x :: rest)).length = cap) (hcm : cap ≤ maxLen)
    (hvb : w.heap[vb]? = some (.cells #[.int .i64 t] 3 (0, 0))) (hne : vb ≠ g) (hl : l.length ≤ 1000) :
    Calls Try.prog 64 #[.slice (some ⟨g, 0, none⟩) l.length cap, .int .i64 i, .slice (some ⟨vb, 0, none⟩) 1 1] w (InsPost B0 w (.slice (some ⟨g, 0, none⟩) l.length cap) (insI l i t)) := by
  have hll := encRow_len encI_len l
  have hroom : l.length + 1 ≤ cap := by
    rw [← hlen, List.length_append, hll, List.length_cons]; omega
  have hov : ∀ c1 c2, (callFunc 77 #[.slice (some ⟨vb, 0, none⟩) 1 1, .slice (some ⟨g, i + 1, none⟩) c1 c2]).run Try.prog w = .ok (.value (.bool false)) w := fun c1 c2 => overlaps_no _ vb g _ c1 c2 _ w hvb hg hne (by rw [List.size_toArray, hlen]; omega)
  have HIns := Lib.hid (ins_rows l i t x rest hil)
  have HLen := Lib.hid hlen
  have HG : Hid (w.drew.heap[g]? = some (.cells (encRow encI l ++ (x :: rest)).toArray 3 (0, 0))) := hg
  have lD : (encRow encI (l.drop i)).length = l.length - i := by rw [encRow_len encI_len, List.length_drop, Nat.mul_one]
  have H1 : Hid ((encRow encI (l.drop i)).length = Nat.min (l.length + 1 - i) (l.length - i)) := by show _ = _; rw [lD]; simp only [Nat.min_def]; split <;> omega
  have H2 : Hid (∀ j v, (encRow encI (l.drop i))[j]? = some v → w.drew.cell? ((⟨g, i, none⟩ : Addr).add j) = some v) := row_src (W := w.drew) hg i (fun j v hj => by
    have e2 : encRow encI l = encRow encI (l.take i) ++ encRow encI (l.drop i) := by rw [← encRow_append, List.take_append_drop]
    have lA : (encRow encI (l.take i)).length = i := by rw [encRow_len encI_len, List.length_take, Nat.mul_one, Nat.min_eq_left (by omega)]
    rw [e2, List.append_assoc, List.getElem?_append_right (by omega), lA, Nat.add_sub_cancel_left, List.getElem?_append_left (List.getElem?_eq_some_iff.1 hj).1]
    exact hj)
  have H3 : Hid ((i + 1) + (encRow encI (l.drop i)).length ≤ (encRow encI l ++ (x :: rest)).length) := by show _ ≤ _; rw [lD, hlen]; omega
  have H4 : Hid (∀ v ∈ encRow encI (l.drop i), v.oneCell' = true) := fun v hv => by
    obtain ⟨y, _, hy⟩ := List.mem_flatMap.1 hv
    exact one_intl y v hy
  have HV : Hid (w.heap[vb]? = some (.cells #[.int .i64 t] 3 (0, 0)) ∧ vb < w.heap.size ∧ vb ≠ g) := ⟨hvb, (Array.getElem?_eq_some_iff.1 hvb).1, hne⟩
  have HN : Hid (i < l.length ∧ l.length ≤ 1000 ∧ l.length + 1 ≤ cap ∧ cap ≤ maxLen ∧ B0 ≤ g) := ⟨hil, hl, hroom, hcm, hB⟩
  have hz2 : ((i : Int) == (l.length : Int)) = false := by rw [beq_eq_false_iff_ne]; omega
  have hi0 : (0 : Int) ≤ (i : Int) := by omega
  have hin : (i : Int) ≤ (l.length : Int) := by omega
  have hlm : (l.length : Int) < 1001 := by omega
  have hc1 : ¬ (cap : Int) < (l.length : Int) + 1 := by omega
  have hc2 : (l.length : Int) + 1 ≤ (cap : Int) := by omega
  have hc3 : ¬ cap = i := by omega
  have hc4 : ¬ cap = i + 1 := by omega
  have hin1 : (i : Int) + 1 ≤ (l.length : Int) + 1 := by omega
  have hi01 : (0 : Int) ≤ (i : Int) + 1 := by omega
  have hin2 : (i : Int) ≤ (l.length : Int) + 1 := by omega
  have hw1 : IntKind.i64.wrap ((l.length : Int) + 1) = ((l.length + 1 : Nat) : Int) := by rw [IntKind.wrap_i64]; omega
  have hw2 : IntKind.i64.wrap ((i : Int) + 1) = ((i + 1 : Nat) : Int) := by rw [IntKind.wrap_i64]; omega
  clear hll hroom hil hlen hcm hvb hne hl hB hg lD
  go_enter Try.func64, Try.ntmps64
  go_wp2_with (simp only [hov])
  clear hov
  go_region_law (refine step_copy_row rfl (.tmp 73) (.tmp 76) 24 24 rfl 3 Try.underlying24 info_int1 g (i + 1) (l.length - i) (cap - (i + 1)) ⟨g, i, none⟩ (l.length + 1 - i) (cap - i) (by simp [Act.eval, Act.put]) (by simp [Act.eval, Act.put]) (encRow encI l ++ (x :: rest)) 3 HG.out (encRow encI (l.drop i)) H1.out H2.out H3.out H4.out ?_; intro w4 hw4)
  have HG4 : Hid (w4.heap[g]? = some (.cells (splice (encRow encI l ++ (x :: rest)) (i + 1) (encRow encI (l.drop i))).toArray 3 (0, 0))) := by
    show _ = _
    rw [hw4.out]
    exact setRow_heap _ _ _ _ _ _ HG.out
  have HB4 : Hid (w.grownBy w4 (some g)) := by show World.grownBy _ _ _; rw [hw4.out]; exact @grown_trans w w.drew _ _ ⟨rfl, rfl, rfl, Nat.le_refl _, fun _ _ _ => rfl⟩ (grown_setRow w.drew g _)
  have HV4 : Hid (w4.cell? ⟨vb, 0, none⟩ = some (.int .i64 t)) := by
    show _ = _
    rw [cell_of_row w4 vb 0 _ _ _ ((HB4.out.block vb HV.out.2.1 (fun e => HV.out.2.2 (Option.some.inj e))).trans HV.out.1)]
    rfl
  have hl4 : (splice (encRow encI l ++ (x :: rest)) (i + 1) (encRow encI (l.drop i))).length = cap := by rw [length_splice _ _ _ H3.out, HLen.out]
  have H5 : Hid (i + (encRow encI [t]).length ≤ (splice (encRow encI l ++ (x :: rest)) (i + 1) (encRow encI (l.drop i))).length) := by
    show _ ≤ _
    rw [hl4]
    have := HN.out
    show i + 1 ≤ cap
    omega
  have H6 : Hid ((encRow encI [t]).length = Nat.min 1 (l.length + 1 - i)) := by
    show (1 : Nat) = _
    have := HN.out
    simp only [Nat.min_def]
    split <;> omega
  clear hw4 hl4 H1 H2 H3 H4 HG
  go_wp2_with (first | ((with_reducible refine wpList_copy_row rfl (.tmp 80) (.tmp 81) 24 24 rfl 3 Try.underlying24 info_int1 g i (l.length + 1 - i) (cap - i) ⟨vb, 0, none⟩ 1 1 ?_ ?_ (splice (encRow encI l ++ (x :: rest)) (i + 1) (encRow encI (l.drop i))) 3 HG4.out (encRow encI [t]) H6.out ?_ H5.out ?_ ?_); (exact rfl); (exact rfl); (exact one_src HV4.out); (exact one_i t)))
  intro w5 hw5
  have HG5 : Hid (w5.heap[g]? = some (.cells (encRow encI (insI l i t) ++ rest).toArray 3 (0, 0))) := by
    show _ = _
    rw [hw5.out, HIns.out]
    exact setRow_heap _ _ _ _ _ _ HG4.out
  have HB5 : Hid (w.grownBy w5 (some g)) := by rw [hw5.out]; exact grown_trans HB4.out (grown_setRow w4 g _)
  have HL5 : Hid ((encRow encI (insI l i t ++ []) ++ rest).length = cap * 1) := by
    show _ = _
    have := HLen.out
    rw [List.length_append, encRow_len encI_len, List.length_cons] at this
    rw [List.append_nil, List.length_append, encRow_len encI_len, insI_len]
    omega
  clear hw5
  go_wp2_with fail
  go_ret
  have hlen5 := insI_len l i t
  refine ⟨_, rfl, ?_, HB5.out, .inl rfl⟩
  rw [hlen5, ← hlen5, intRow_enc]
  have h := own_close (m := []) encI_len HN.out.2.2.2.2 (by rw [List.append_nil]; exact HG5.out) (by rw [hlen5]; exact HN.out.2.2.1) HN.out.2.2.2.1 HL5.out
  rw [hlen5] at h ⊢
  exact h
end Go.Proofs.Ythcjkbhkidijoaa
/- the library's Insert of one number, where there is no room -/
namespace Go.Proofs.Ythcjkbhkidijoaa
open Go.RowKit
set_option maxRecDepth 20000
set_option linter.unusedSimpArgs false
set_option linter.unusedVariables false

theorem zero_len (n : Nat) : (Builtin.zeroCells #[Value.int .i64 0] n).toList.length = n := by simp [Builtin.zeroCells]
theorem ins_rows2 (l : List Int) (i : Nat) (t : Int) (Z1 Z2 : List Value) (hil : i < l.length) (hZ : Z1.length = l.length + 1 - i) :
    splice (splice (encRow encI (l.take i) ++ (Z1 ++ Z2)) i (encRow encI [t])) (i + 1) (encRow encI (l.drop i)) = encRow encI (insI l i t) ++ Z2 := by
  have lA : (encRow encI (l.take i)).length = i := by rw [encRow_len encI_len, List.length_take, Nat.mul_one, Nat.min_eq_left (by omega)]
  have lD : (encRow encI (l.drop i)).length = l.length - i := by rw [encRow_len encI_len, List.length_drop, Nat.mul_one]
  cases Z1 with
  | nil => simp at hZ; omega
  | cons z0 Z1 =>
    rw [List.length_cons] at hZ
    have e1 : encRow encI (l.take i) ++ ((z0 :: Z1) ++ Z2) = encRow encI (l.take i) ++ ([z0] ++ (Z1 ++ Z2)) := by simp
    rw [e1, splice_mid (by rfl) lA]
    have e2 : encRow encI (l.take i) ++ (encRow encI [t] ++ (Z1 ++ Z2)) = (encRow encI (l.take i) ++ encRow encI [t]) ++ (Z1 ++ Z2) := by simp
    rw [e2, splice_mid (by rw [lD]; omega) (by rw [List.length_append, lA]; rfl)]
    unfold insI
    rw [encRow_append]
    show (encRow encI (l.take i) ++ (encI t ++ [])) ++ (encRow encI (l.drop i) ++ Z2) = (encRow encI (l.take i) ++ (encI t ++ encRow encI (l.drop i))) ++ Z2
    simp
set_option maxHeartbeats 8000000 in
theorem insert_grow (l : List Int) (t : Int) (i g cap vb : Nat) (rest : List Value) (B0 : Nat) (w : World) (hil : i < l.length) (hB0 : B0 ≤ w.heap.size) (hg : w.heap[g]? = some (.cells (encRow encI l ++ rest).toArray 3 (0, 0))) (hcap : cap = l.length)
    (hvb : w.heap[vb]? = some (.cells #[.int .i64 t] 3 (0, 0))) (hl : l.length ≤ 1000) :
    Calls Try.prog 64 #[.slice (some ⟨g, 0, none⟩) l.length cap, .int .i64 i, .slice (some ⟨vb, 0, none⟩) 1 1] w (InsPost B0 w (.slice (some ⟨g, 0, none⟩) l.length cap) (insI l i t)) := by
  subst hcap
  obtain ⟨i0, hi0, hz0, hzs, hzb⟩ := info_of info_int
  have lA : (encRow encI (l.take i)).length = i := by rw [encRow_len encI_len, List.length_take, Nat.mul_one, Nat.min_eq_left (by omega)]
  have lD : (encRow encI (l.drop i)).length = l.length - i := by rw [encRow_len encI_len, List.length_drop, Nat.mul_one]
  have e2 : encRow encI l = encRow encI (l.take i) ++ encRow encI (l.drop i) := by rw [← encRow_append, List.take_append_drop]
  have hold : (Builtin.firstCells i0.size i (.slice (some ⟨g, 0, none⟩) i l.length)).run Try.prog w.drew = .ok (encRow encI (l.take i)).toArray w.drew := by
    rw [hzs]
    exact run_firstCells_some w.drew 1 i ⟨g, 0, none⟩ i l.length (encRow encI (l.take i)) (by rw [lA]; omega) (row_src (W := w.drew) hg 0 (fun j v hj => by
      rw [Nat.zero_add, e2, List.append_assoc, List.getElem?_append_left (List.getElem?_eq_some_iff.1 hj).1]
      exact hj))
  obtain ⟨G, hG⟩ : ∃ G, G = grownCap w (l.length + 1) l.length 3 := ⟨_, rfl⟩
  have hGn : l.length + 1 ≤ G := by rw [hG]; exact grownCap_ge w _ _ _
  have hGm : G ≤ maxLen := by rw [hG]; exact grownCap_le_maxLen w _ _ _ (by unfold maxLen; omega)
  obtain ⟨Z1, hZ1⟩ : ∃ Z1, Z1 = (Builtin.zeroCells #[Value.int .i64 0] (l.length + 1 - i)).toList := ⟨_, rfl⟩
  obtain ⟨Z2, hZ2⟩ : ∃ Z2, Z2 = (Builtin.zeroCells #[Value.int .i64 0] (G - (l.length + 1))).toList := ⟨_, rfl⟩
  have hl1 : Z1.length = l.length + 1 - i := by rw [hZ1, zero_len]
  have hl2 : Z2.length = G - (l.length + 1) := by rw [hZ2, zero_len]
  have hr : (Builtin.append_ #[24, 3] 24 #[.slice (some ⟨g, 0, none⟩) i l.length, .int .i64 ((l.length : Int) + 1 - (i : Int))]).run Try.prog w =
      .ok (.slice (some ⟨w.heap.size, 0, none⟩) (l.length + 1) G) (w.drew.alloc (.cells (encRow encI (l.take i) ++ (Z1 ++ Z2)).toArray 3)) := by
    have h := Lib.run_append_grow_zeros (P := Try.prog) w 24 3 24 3 i0 _ .i64 .i64 Try.underlying24 Try.underlying3 hi0 hz0 (some ⟨g, 0, none⟩) i l.length (encRow encI (l.take i)) hold (l.length + 1 - i) (by omega) (by omega) (by omega) (by omega) (by rw [hzb]; omega) (by
      rw [hzb, show i + (l.length + 1 - i) = l.length + 1 from by omega]
      exact growslice_fits (by omega) (by omega))
    rw [show i + (l.length + 1 - i) = l.length + 1 from by omega, ← hG] at h
    rw [show (l.length : Int) + 1 - (i : Int) = ((l.length + 1 - i : Nat) : Int) from by omega, h]
    congr 3
    rw [hZ1, hZ2]
    apply Array.toList_inj.1
    simp [Value.cells]
  have hgw := (Array.getElem?_eq_some_iff.1 hg).1
  have hvw := (Array.getElem?_eq_some_iff.1 hvb).1
  have HIns := Lib.hid (ins_rows2 l i t Z1 Z2 hil hl1)
  obtain ⟨w1, hw1⟩ : ∃ w1, w1 = w.drew.alloc (.cells (encRow encI (l.take i) ++ (Z1 ++ Z2)).toArray 3) := ⟨_, rfl⟩
  rw [← hw1] at hr
  have HG1 : Hid (w1.heap[w.heap.size]? = some (.cells (encRow encI (l.take i) ++ (Z1 ++ Z2)).toArray 3 (0, 0))) := by
    show _ = _
    rw [hw1]
    exact heap_alloc_last w.drew _
  have HB1 : Hid (w.grownBy w1 none ∧ w1.heap.size = w.heap.size + 1) := by
    rw [hw1]
    exact ⟨⟨rfl, rfl, rfl, by simp, fun k hk _ => by
      show (w.heap.push _)[k]? = _
      rw [Array.getElem?_push, if_neg (by omega)]⟩, by simp⟩
  have HV1 : Hid (w1.cell? ⟨vb, 0, none⟩ = some (.int .i64 t)) := by
    show _ = _
    rw [cell_of_row w1 vb 0 _ _ _ ((HB1.out.1.block vb hvw (by simp)).trans hvb)]
    rfl
  have HGg : Hid (w1.heap[g]? = some (.cells (encRow encI l ++ rest).toArray 3 (0, 0)) ∧ g ≠ w.heap.size) := ⟨(HB1.out.1.block g hgw (by simp)).trans hg, by omega⟩
  have hlR : (encRow encI (l.take i) ++ (Z1 ++ Z2)).length = G := by
    rw [List.length_append, List.length_append, lA, hl1, hl2]; omega
  have H5 : Hid (i + (encRow encI [t]).length ≤ (encRow encI (l.take i) ++ (Z1 ++ Z2)).length) := by
    show i + 1 ≤ _
    rw [hlR]; omega
  have H6 : Hid ((encRow encI [t]).length = Nat.min 1 (l.length + 1 - i)) := by
    show (1 : Nat) = _
    simp only [Nat.min_def]
    split <;> omega
  have hlS : (splice (encRow encI (l.take i) ++ (Z1 ++ Z2)) i (encRow encI [t])).length = G := by rw [length_splice _ _ _ H5.out, hlR]
  have H1 : Hid ((encRow encI (l.drop i)).length = Nat.min (l.length - i) (l.length - i)) := by show _ = _; rw [lD]; simp only [Nat.min_def]; split <;> omega
  have H3 : Hid ((i + 1) + (encRow encI (l.drop i)).length ≤ (splice (encRow encI (l.take i) ++ (Z1 ++ Z2)) i (encRow encI [t])).length) := by
    show _ ≤ _
    rw [hlS, lD]; omega
  have H4 : Hid (∀ v ∈ encRow encI (l.drop i), v.oneCell' = true) := fun v hv => by
    obtain ⟨y, _, hy⟩ := List.mem_flatMap.1 hv
    exact one_intl y v hy
  have HSrc : Hid (∀ W : World, W.heap[g]? = some (.cells (encRow encI l ++ rest).toArray 3 (0, 0)) → ∀ j v, (encRow encI (l.drop i))[j]? = some v → W.cell? ((⟨g, i, none⟩ : Addr).add j) = some v) := fun W hW => row_src hW i (fun j v hj => by
    rw [e2, List.append_assoc, List.getElem?_append_right (by omega), lA, Nat.add_sub_cancel_left, List.getElem?_append_left (List.getElem?_eq_some_iff.1 hj).1]
    exact hj)
  have HL5 : Hid ((encRow encI (insI l i t ++ []) ++ Z2).length = G * 1) := by
    show _ = _
    rw [List.append_nil, List.length_append, encRow_len encI_len, insI_len, hl2]
    omega
  have HN : Hid (i < l.length ∧ l.length ≤ 1000 ∧ l.length + 1 ≤ G ∧ G ≤ maxLen ∧ B0 ≤ w.heap.size) := ⟨hil, hl, hGn, hGm, hB0⟩
  have hz2 : ((i : Int) == (l.length : Int)) = false := by rw [beq_eq_false_iff_ne]; omega
  have hi00 : (0 : Int) ≤ (i : Int) := by omega
  have hi01 : (0 : Int) ≤ (i : Int) + 1 := by omega
  have hin : (i : Int) ≤ (l.length : Int) := by omega
  have hlm : (l.length : Int) < 1001 := by omega
  have hGi : (G : Int) ≤ 9223372036854775807 := by unfold maxLen at hGm; omega
  have hc3 : ¬ l.length = i := by omega
  have hc4 : ¬ G = i + 1 := by omega
  have hc5 : ¬ G = i := by omega
  have hin1 : (i : Int) + 1 ≤ (l.length : Int) + 1 := by omega
  have hin2 : (i : Int) ≤ (l.length : Int) + 1 := by omega
  have hlt1 : (l.length : Int) < (l.length : Int) + 1 := by omega
  have hw1' : IntKind.i64.wrap ((l.length : Int) + 1) = (l.length : Int) + 1 := by rw [IntKind.wrap_i64]; omega
  have hw2 : IntKind.i64.wrap ((i : Int) + 1) = (i : Int) + 1 := by rw [IntKind.wrap_i64]; omega
  have hw3 : IntKind.i64.wrap ((l.length : Int) + 1 - (i : Int)) = (l.length : Int) + 1 - (i : Int) := by rw [IntKind.wrap_i64]; omega
  clear hil hB0 hg hvb hl lA lD e2 hold hG hGn hGm hZ1 hZ2 hl1 hl2 hlR hlS hgw hvw hw1 hi0 hz0 hzs hzb
  go_enter Try.func64, Try.ntmps64
  go_wp2_with (first
    | (at_builtin; refine Lib.wpList_append_run _ rfl (.tmp 34) (.tmp 39) _ _ rfl _ _ rfl rfl _ _ hr ?_)
    | ((with_reducible refine wpList_copy_row rfl (.tmp 43) (.tmp 44) 24 24 rfl 3 Try.underlying24 info_int1 w.heap.size i (l.length + 1 - i) (G - i) ⟨vb, 0, none⟩ 1 1 ?_ ?_ (encRow encI (l.take i) ++ (Z1 ++ Z2)) 3 HG1.out (encRow encI [t]) H6.out ?_ H5.out ?_ ?_); (exact rfl); (exact rfl); (exact one_src HV1.out); (exact one_i t)))
  intro w4 hw4
  have HG4 : Hid (w4.drew.heap[w.heap.size]? = some (.cells (splice (encRow encI (l.take i) ++ (Z1 ++ Z2)) i (encRow encI [t])).toArray 3 (0, 0))) := by
    show w4.heap[w.heap.size]? = _
    rw [hw4.out]
    exact setRow_heap _ _ _ _ _ _ HG1.out
  have HS4 : Hid (∀ j v, (encRow encI (l.drop i))[j]? = some v → w4.drew.cell? ((⟨g, i, none⟩ : Addr).add j) = some v) := HSrc.out w4.drew (by
    show w4.heap[g]? = _
    rw [hw4.out, setRow_other _ _ _ _ HGg.out.2]
    exact HGg.out.1)
  have HB4 : Hid (w.grownBy w4 none) := by
    show World.grownBy _ _ _
    rw [hw4.out]
    exact ⟨HB1.out.1.os, HB1.out.1.tape, HB1.out.1.output, by simp [World.setRow]; have := HB1.out.2; omega, fun k hk _ => by
      rw [setRow_other _ _ _ _ (by omega)]
      exact HB1.out.1.block k hk (by simp)⟩
  clear hw4 HSrc HGg HV1 HG1 hr
  go_wp2_with fail
  go_region_law (refine step_copy_row rfl (.tmp 50) (.tmp 53) 24 24 rfl 3 Try.underlying24 info_int1 w.heap.size (i + 1) (l.length - i) (G - (i + 1)) ⟨g, i, none⟩ (l.length - i) (l.length - i) (by simp [Act.eval, Act.put]) (by simp [Act.eval, Act.put]) (splice (encRow encI (l.take i) ++ (Z1 ++ Z2)) i (encRow encI [t])) 3 HG4.out (encRow encI (l.drop i)) H1.out HS4.out H3.out H4.out ?_; intro w5 hw5)
  have HG5 : Hid (w5.heap[w.heap.size]? = some (.cells (encRow encI (insI l i t) ++ Z2).toArray 3 (0, 0))) := by
    show _ = _
    rw [hw5.out, HIns.out]
    exact setRow_heap _ _ _ _ _ _ HG4.out
  have HB5 : Hid (w.grownBy w5 (some g)) := by
    show World.grownBy _ _ _
    rw [hw5.out]
    exact ⟨HB4.out.os, HB4.out.tape, HB4.out.output, by simp [World.setRow]; exact HB4.out.size, fun k hk _ => by
      rw [setRow_other _ _ _ _ (by omega)]
      exact HB4.out.block k hk (by simp)⟩
  clear hw5
  go_wp2_with fail
  go_ret
  have hlen5 := insI_len l i t
  refine ⟨_, rfl, ?_, HB5.out, .inr rfl⟩
  rw [intRow_enc]
  have h := own_close (m := []) encI_len HN.out.2.2.2.2 (by rw [List.append_nil]; exact HG5.out) (by rw [hlen5]; exact HN.out.2.2.1) HN.out.2.2.2.1 HL5.out
  rw [hlen5] at h ⊢
  exact h
/-- an insertion into a slice of the walk's own -/
theorem insert_own (l : List Int) (t : Int) (i : Nat) (v : Value) (B0 vb : Nat) (w : World) (hi : i ≤ l.length) (own : w.ownsRow B0 3 1 v l.length (intRow l)) (hvb : w.heap[vb]? = some (.cells #[.int .i64 t] 3 (0, 0))) (hne : v.ownBlock ≠ some vb) (hB0 : B0 ≤ w.heap.size) (hl : l.length ≤ 1000) :
    Calls Try.prog 64 #[v, .int .i64 i, .slice (some ⟨vb, 0, none⟩) 1 1] w (InsPost B0 w v (insI l i t)) := by
  rcases Nat.lt_or_eq_of_le hi with h | h
  · rw [intRow_enc] at own
    rcases own_open encI_len own rfl (by decide) with ⟨_, rfl⟩ | ⟨g, cap, rest, rfl, hB, hg, h1, h2, h3⟩
    · simp at h
    · cases rest with
      | nil =>
        rw [List.append_nil, encRow_len encI_len] at h3
        exact insert_grow l t i g cap vb [] B0 w h hB0 hg (by omega) hvb hl
      | cons x rest => exact insert_room l t i g cap vb rest x B0 w h hB hg (by rw [h3, Nat.mul_one]) h2 hvb (fun e => hne (by rw [e]; rfl)) hl
  · subst h
    have := insert_end l t v B0 vb w own (by rw [cell_of_row w vb 0 _ _ _ hvb]; rfl) hB0 hl
    have e : insI l l.length t = l ++ [t] := by unfold insI; rw [List.take_length, List.drop_length]
    rw [e]
    exact this
end Go.Proofs.Ythcjkbhkidijoaa
/- what is kept of memory beside a rest that is not looked at; slices of one's own that a callee writes in place -/
namespace Go.Proofs.Ythcjkbhkidijoaa
open Go.RowKit
set_option maxRecDepth 20000
set_option linter.unusedSimpArgs false
set_option linter.unusedVariables false

theorem Hp.perm {w W : World} {L M : List Th} (h : Hp w L W) (p : L.Perm M) : Hp w M W := ⟨h.old, fun x hx => h.all x (p.mem_iff.2 hx), (p.pairwise_iff (fun h => h.symm)).1 h.nd⟩
theorem Hp.sub {w W : World} {L M : List Th} (h : Hp w L W) (s : M.Sublist L) : Hp w M W := ⟨h.old, fun x hx => h.all x (s.subset hx), h.nd.sublist s⟩
/-- an object is made, and stands where it is asked for -/
theorem Hp.ins {w W : World} (L1 : List Th) {L2 : List Th} (h : Hp w (L1 ++ L2) W) (t : TypeId) (cs : List Value) : Hp w (L1 ++ (.ob W.heap.size t cs :: L2)) (W.alloc (.cells cs.toArray t)) :=
  (h.put t cs).perm (by
    rw [List.append_assoc]
    exact List.Perm.append_left _ List.perm_append_comm)
/-- a thing is not looked at any more -/
theorem Hp.del {w W : World} (L1 : List Th) {x : Th} {L2 : List Th} (h : Hp w (L1 ++ (x :: L2)) W) : Hp w (L1 ++ L2) W := h.sub (List.Sublist.append (List.Sublist.refl _) (List.sublist_cons_self _ _))
/-- one cell of a slice of its own is written -/
theorem Hp.slset {w W : World} {L : List Th} (h : Hp w L W) (i : Nat) {g n c : Nat} {t : TypeId} {xs : List Value} (e : L[i]? = some (.sl (.slice (some ⟨g, 0, none⟩) n c) t 1 n xs)) (k : Nat) (hk : k < n) (u : Value) :
    Hp w (L.set i (.sl (.slice (some ⟨g, 0, none⟩) n c) t 1 n (xs.set k u))) (W.setCell ⟨g, k, none⟩ u) := by
  refine h.swap i e _ ?_ (fun b hb => .inl hb) rfl (fun j hj hne => Below.heap_setCell _ _ _ _ (fun e => hne (by rw [e]; rfl))) rfl rfl rfl (by simp [World.setCell])
  have ho := h.own i e
  refine ⟨by rw [List.length_set]; exact ho.1, ?_⟩
  rcases ho.2 with ⟨h0, _⟩ | ⟨g', cap, cur, hv, hB, hg, h1, h2, h3, h4⟩
  · cases h0
  · have e1 : g' = g := by have := congrArg Value.ownBlock hv; simpa [Value.ownBlock] using this.symm
    have e2 : cap = c := by injection hv with _ _ h; exact h.symm
    subst e1 e2
    refine .inr ⟨g', cap, cur.setIfInBounds k u, rfl, hB, heap_setCell_same W g' k _ _ u hg, h1, h2, by simpa using h3, ?_⟩
    rw [Array.toList_setIfInBounds, ← h4, List.take_set]
theorem Hp.slcell {w W : World} {L : List Th} (h : Hp w L W) (i : Nat) {g n c : Nat} {t : TypeId} {xs : List Value} (e : L[i]? = some (.sl (.slice (some ⟨g, 0, none⟩) n c) t 1 n xs)) (k : Nat) {u : Value} (hk : xs[k]? = some u) : W.cell? ⟨g, k, none⟩ = some u ∧ W.frozen? ⟨g, k, none⟩ = false := by
  have ho := h.own i e
  have hr := own_range ho rfl k [u] (fun j v hj => by
    have hj0 := (List.getElem?_eq_some_iff.1 hj).1
    have : j = 0 := by simp only [List.length_cons, List.length_nil] at hj0; omega
    subst this
    rw [Nat.add_zero, hk]
    simpa using hj)
  refine ⟨hr 0 u rfl, ?_⟩
  rcases ho.2 with ⟨h0, _⟩ | ⟨g', cap, cur, hv, hB, hg, _⟩
  · cases h0
  · have e1 : g' = g := by have := congrArg Value.ownBlock hv; simpa [Value.ownBlock] using this.symm
    subst e1
    exact frozen_of_row _ _ _ _ _ hg
set_option maxHeartbeats 4000000 in
theorem delInt_own (n : Int) (B : Nat) (l : List Int) (v : Value) (B0 : Nat) (w : World) (own : w.ownsRow B0 3 1 v l.length (intRow l)) (hBv : v.ownBlock ≠ some B) (hc : w.cell? ⟨B, 0, none⟩ = some (.int .i64 n)) (hl : l.length ≤ 1000) :
    Calls Try.prog 71 #[v, .func (.func 72) #[] #[.pointer (some ⟨B, 0, none⟩)]] w fun e w' => ∃ v', e = .returned v' ∧ w'.ownsRow B0 3 1 v' (withoutR l n).length (intRow (withoutR l n)) ∧ w.grownBy w' v.ownBlock ∧ v'.ownBlock = v.ownBlock := by
  have own' := own
  rw [intRow_enc] at own'
  rcases own_open encI_len own' rfl (by decide) with ⟨rfl, rfl⟩ | ⟨g, cap, rest, rfl, hB, hg, h1, h2, h3⟩
  · have hIx := idxInt_any n B [] (.slice none 0 0) [] w (World.block_lt_of_cell? w _ hc) hc (SlRd.nil 1 []) (RdIn.nil w) (by simp)
    have e0 : idxR (fun x => decide (x = n)) ([] : List Int) = -1 := idxR_none rfl
    rw [e0] at hIx
    have HX := Lib.hid own
    clear own own' hc hBv hl e0
    go_enter Try.func71, Try.ntmps71
    go_wp2_with fail
    refine hIx.mono ?_
    rintro e w2 ⟨rfl, hb⟩
    clear hIx
    have HB := Lib.hid hb
    clear hb
    go_wp2_with fail
    go_ret
    exact ⟨_, rfl, ⟨by simp [withoutR, intRow], .inl ⟨rfl, by simp [withoutR]⟩⟩, grown_below HB.out, rfl⟩
  · have hne : B ≠ g := fun e => hBv (by rw [e]; rfl)
    refine (delInt_row n B l g cap rest w hne hc hl h1 h2 hg).mono ?_
    rintro e w2 ⟨rfl, ⟨m, hm1, hm2⟩, hgr⟩
    refine ⟨_, rfl, ?_, hgr, rfl⟩
    rw [intRow_enc]
    refine own_close encI_len hB hm2 (Nat.le_trans (List.length_filter_le _ _) h1) h2 ?_
    rw [List.length_append, encRow_len encI_len, hm1]
    rw [List.length_append, encRow_len encI_len] at h3
    exact h3
set_option maxHeartbeats 4000000 in
theorem delFlt_own (gn : Nat) (lb : Array Value) (q : Flt → Bool) (l : List Flt) (v : Value) (B0 : Nat) (w : World) (eg : EntersF gn) (own : w.ownsRow B0 29 6 v l.length (fltRow l)) (hp : FltFnX gn lb q l v.ownBlock w) (hl : l.length ≤ 1000) :
    Calls Try.prog 40 #[v, .func (.func gn) #[] lb] w fun e w' => ∃ v', e = .returned v' ∧ w'.ownsRow B0 29 6 v' (l.filter fun x => !q x).length (fltRow (l.filter fun x => !q x)) ∧ w.grownBy w' v.ownBlock ∧ v'.ownBlock = v.ownBlock := by
  have own' := own
  rw [fltRow_enc] at own'
  rcases own_open fltCells_len own' rfl (by decide) with ⟨rfl, rfl⟩ | ⟨g, cap, rest, rfl, hB, hg, h1, h2, h3⟩
  · have hIx := idxFlt_any gn lb q [] (.slice none 0 0) [] w eg (fun W x hx => by cases hx) (SlRd.nil 6 []) (RdIn.nil w) (by simp)
    have e0 : idxR q ([] : List Flt) = -1 := idxR_none rfl
    rw [e0] at hIx
    clear own own' hp hl e0
    go_enter Try.func40, Try.ntmps40
    go_wp2_with fail
    refine hIx.mono ?_
    rintro e w2 ⟨rfl, hb⟩
    clear hIx
    have HB := Lib.hid hb
    clear hb
    go_wp2_with fail
    go_ret
    exact ⟨_, rfl, ⟨by simp [fltRow], .inl ⟨rfl, by simp⟩⟩, grown_below HB.out, rfl⟩
  · refine (delFlt_row gn lb q l g cap rest w eg hp hl h1 h2 hg).mono ?_
    rintro e w2 ⟨rfl, ⟨m, hm1, hm2⟩, hgr⟩
    refine ⟨_, rfl, ?_, hgr, rfl⟩
    rw [fltRow_enc]
    refine own_close fltCells_len hB hm2 (Nat.le_trans (List.length_filter_le _ _) h1) h2 ?_
    rw [List.length_append, encRow_len fltCells_len, hm1]
    rw [List.length_append, encRow_len fltCells_len] at h3
    exact h3
end Go.Proofs.Ythcjkbhkidijoaa
/- the program's put -/
namespace Go.Proofs.Ythcjkbhkidijoaa
open Go.RowKit
set_option maxRecDepth 20000
set_option linter.unusedSimpArgs false
set_option linter.unusedVariables false

def dputR (d : Dv) (k : Nat) (s : ByteArray) : Dv := ⟨d.pages.set k (s ++ (d.pages.getD k ⟨#[]⟩).extract s.size 256), d.writes, withoutR d.unread k, d.dead, d.faults⟩
/-- a device that a walk has: its variable, and its pages and unreadable ones in memory of the walk's own -/
abbrev DvTh (b : Nat) (p u f : Value) (d : Dv) (M : List Th) : List Th := .ob b 27 (dvCells p d u f) :: .sl p 9 1 d.pages.length (strRow d.pages) :: .sl u 3 1 d.unread.length (intRow d.unread) :: M
theorem strRow_set (l : List ByteArray) (k : Nat) (y : ByteArray) : (strRow l).set k (.string y) = strRow (l.set k y) := by unfold strRow; rw [List.map_set]
set_option maxHeartbeats 8000000 in
theorem put_any {w0 W : World} {M : List Th} {b : Nat} {p u f : Value} {d : Dv} (s : ByteArray) (k : Nat) (h : Hp w0 (DvTh b p u f d M) W) (hk : k < d.pages.length) (hold : ∀ s ∈ d.pages, s.size = 256) (hs : s.size ≤ 256) (hu : d.unread.length ≤ 1000) (hp : d.pages.length ≤ 1000) :
    Calls Try.prog 55 #[.pointer (some ⟨b, 0, none⟩), .int .i64 k, .string s] W fun e W' => e = .returned (.tuple #[]) ∧ ∃ u', Hp w0 (DvTh b p u' f (dputR d k s) M) W' := by
  have hpo := h.own 1 rfl
  rcases hpo.2 with ⟨_, h0⟩ | ⟨g, cap, cur, rfl, hB, hg, h1, h2, h3, h4⟩
  · omega
  obtain ⟨a, c, rfl⟩ := own_slice (h.own 2 rfl)
  obtain ⟨y, hy⟩ : ∃ y, d.pages[k] = y := ⟨_, rfl⟩
  have hys : y.size = 256 := by rw [← hy]; exact hold _ (List.getElem_mem hk)
  have hyD : d.pages.getD k ⟨#[]⟩ = y := by rw [List.getD_eq_getElem?_getD, List.getElem?_eq_getElem hk]; exact hy
  have HP : Hid (dputR d k s = ⟨d.pages.set k (s ++ y.extract s.size 256), d.writes, withoutR d.unread k, d.dead, d.faults⟩) := by show _ = _; unfold dputR; rw [hyD]
  have HS0 : Hid (Hp w0 (.ob b 27 (dvCells (.slice (some ⟨g, 0, none⟩) d.pages.length cap) d (.slice a d.unread.length c) f) :: .sl (.slice (some ⟨g, 0, none⟩) d.pages.length cap) 9 1 d.pages.length (strRow d.pages) :: .sl (.slice a d.unread.length c) 3 1 d.unread.length (intRow d.unread) :: .ob W.heap.size 3 [.int .i64 k] :: M) (W.alloc (.cells #[.int .i64 k] 3))) := h.ins [_, _, _] 3 [.int .i64 k]
  have HPat : Hid ((strRow d.pages)[k]? = some (.string y)) := by show _ = _; rw [strRow_at d.pages k hk, hy]
  have HU := Lib.hid hu
  have HKl := Lib.hid hk
  have hcell := (HS0.out.drew.slcell 1 rfl k HPat.out).1
  have hfz := (HS0.out.drew.slcell 1 rfl k HPat.out).2
  have b0 := HS0.out.drew.at 0 rfl 0 rfl
  have b2 := HS0.out.drew.at 0 rfl 2 rfl
  have bx := HS0.out.drew.at 3 rfl 0 rfl
  have hk0 : (0 : Int) ≤ (k : Int) := by omega
  have hkn : (k : Int) < (d.pages.length : Int) := by omega
  have hss : (s.size : Int) ≤ 256 := by omega
  have hs0 : (0 : Int) ≤ (s.size : Int) := by omega
  have hsy : (y.size : Int) = 256 := by omega
  clear h hk hold hs hu hpo hB hg h1 h2 h3 h4 hy hyD hp
  go_enter Try.func55, Try.ntmps55
  go_wp2_with fail
  go_region
  clear b0 b2 bx hcell hfz hk0 hkn hss hs0 hsy
  have HS1 : Hid (Hp w0 (.ob b 27 (dvCells (.slice (some ⟨g, 0, none⟩) d.pages.length cap) d (.slice a d.unread.length c) f) :: .sl (.slice (some ⟨g, 0, none⟩) d.pages.length cap) 9 1 d.pages.length (strRow (d.pages.set k (s ++ y.extract s.size 256))) :: .sl (.slice a d.unread.length c) 3 1 d.unread.length (intRow d.unread) :: .ob W.heap.size 3 [.int .i64 k] :: M) (((W.alloc (.cells #[.int .i64 k] 3)).setCell ⟨g, k, none⟩ (.string (s ++ y.extract s.size 256))).drew)) := by
    have h := (HS0.out.slset 1 rfl k HKl.out (.string (s ++ y.extract s.size 256))).drew
    rw [strRow_set] at h
    exact h
  clear HS0
  generalize ((W.alloc (.cells #[.int .i64 k] 3)).setCell ⟨g, k, none⟩ (.string (s ++ y.extract s.size 256))).drew = w1 at *
  generalize W.heap.size = bx at *
  have b2 := HS1.out.at 0 rfl 2 rfl
  have hcall := delInt_own (k : Int) bx d.unread _ _ w1 (HS1.out.own 2 rfl) (fun e => HS1.out.ne 2 3 rfl rfl (by decide) e rfl rfl) (HS1.out.at 3 rfl 0 rfl) HU.out
  go_wp2_with fail
  refine hcall.mono ?_
  rintro e w2 ⟨u', rfl, ho, hgr, hbl⟩
  have HS2 := Lib.hid (HS1.out.grown 2 rfl ho hgr (.inl hbl))
  clear hcall ho hgr hbl b2
  obtain ⟨a', c', rfl⟩ := own_slice (HS2.out.own 2 rfl)
  have b2 := HS2.out.at 0 rfl 2 rfl
  have f2 := HS2.out.frozen 0 rfl 2
  have HS3 := Lib.hid (HS2.out.set 0 rfl 2 (.slice a' (withoutR d.unread k).length c'))
  clear HS1 HS2
  go_wp2_with fail
  refine bodyPost_end (v := .tuple #[]) (by simp [results, Try.results55, go_sem]) rfl ⟨rfl, .slice a' (withoutR d.unread k).length c', ?_⟩
  rw [HP.out]
  have h := Hp.del [_, _, _] HS3.out
  show Hp w0 (.ob b _ _ :: .sl (.slice (some ⟨g, 0, none⟩) d.pages.length cap) _ 1 (d.pages.set k (s ++ y.extract s.size 256)).length _ :: _) _
  rw [List.length_set]
  exact h
end Go.Proofs.Ythcjkbhkidijoaa
/- the program's fate: what becomes of a write -/
namespace Go.Proofs.Ythcjkbhkidijoaa
open Go.RowKit
set_option maxRecDepth 20000
set_option linter.unusedSimpArgs false
set_option linter.unusedVariables false

def fateV : List Flt → Value
  | [] => .iface 88 (.agg #[])
  | f :: l => if f.kind = 1 then .iface 83 (.agg #[]) else if f.kind = 2 then .iface 85 (.agg #[.int .i64 f.target]) else if f.kind = 3 then .iface 87 (.agg #[.int .i64 f.byte]) else fateV l
theorem conc_lost : Try.prog.concrete 83 = true := by kernel_rfl
theorem conc_astray : Try.prog.concrete 85 = true := by kernel_rfl
theorem conc_torn : Try.prog.concrete 87 = true := by kernel_rfl
theorem conc_whole : Try.prog.concrete 88 = true := by kernel_rfl
theorem build_lost (W : World) : Sem.run Try.prog (Instr.build 83 #[]) W = .ok (.agg #[]) W := by kernel_rfl
theorem build_whole (W : World) : Sem.run Try.prog (Instr.build 88 #[]) W = .ok (.agg #[]) W := by kernel_rfl
theorem build_astray (n : Int) (W : World) : Sem.run Try.prog (Instr.build 85 #[(0, .int .i64 n)]) W = .ok (.agg #[.int .i64 n]) W := by kernel_rfl
theorem build_torn (n : Int) (W : World) : Sem.run Try.prog (Instr.build 87 #[(0, .int .i64 n)]) W = .ok (.agg #[.int .i64 n]) W := by kernel_rfl
set_option maxHeartbeats 8000000 in
theorem fate_any (l : List Flt) (v : Value) (R : List Rng) (w : World) (hv : SlRd v 6 l.length (fltRow l) R) (hR : RdIn w R) (hl : l.length ≤ 1000) :
    Calls Try.prog 45 #[v] w fun e w' => e = .returned (fateV l) ∧ Below w.heap.size w w' := by
  obtain ⟨a, cap, rfl, hnc, hcm, hg⟩ := hv.open hR
  obtain ⟨fs, huf⟩ := under_flt
  have HUF := Lib.hid huf
  have HL := Lib.hid hl
  have c1 := conc_lost
  have c2 := conc_astray
  have c3 := conc_torn
  have c4 := conc_whole
  have d1 := build_lost
  have d2 := build_astray
  have d3 := build_torn
  have d4 := build_whole
  clear hv hR hnc hcm hl huf
  go_enter Try.func45, Try.ntmps45
  go_wp2_with fail
  go_loopw [7] (fun i wr => ∃ k : Nat, k ≤ l.length ∧ i = .int .i64 k ∧ fateV (l.drop k) = fateV l ∧ Below w.heap.size w wr) (fun i _ => l.length - (intOf i).toNat)
  case atStart => exact ⟨0, by omega, rfl, rfl, Below.refl _ _⟩
  case round =>
    obtain ⟨k, hk, rfl, hh, hb⟩ := hrel
    have HB := Lib.hid hb
    have HH := Lib.hid hh
    clear hb hh
    by_cases hlt : k < l.length
    · obtain ⟨b, off, rfl, hr⟩ := hg.out (by omega)
      obtain ⟨x, hx⟩ : ∃ x, l[k] = x := ⟨_, rfl⟩
      have hcells : Hid (wr.rangeAt b (off + k * 6) (fltCells x)) := fun j u hj => by
        rw [Nat.add_assoc]
        exact hr wr HB.out (k * 6 + j) u (fltRow_at l k hlt j u (by rw [hx]; exact hj))
      have hki : (k : Int) < (l.length : Int) := by omega
      have hk0 : (0 : Int) ≤ (k : Int) := by omega
      have hkm : (k : Int) < 1001 := by have := HL.out; omega
      have HD : Hid (fateV l = if x.kind = 1 then .iface 83 (.agg #[]) else if x.kind = 2 then .iface 85 (.agg #[.int .i64 x.target]) else if x.kind = 3 then .iface 87 (.agg #[.int .i64 x.byte]) else fateV (l.drop (k + 1))) := by
        show _ = _
        rw [← HH.out, ← List.getElem_cons_drop hlt, hx]
        rfl
      have HW1 : Hid (Below w.heap.size w ((wr.alloc (.cells (fltCells fltNil).toArray 29)).setRow wr.heap.size (fltCells x).toArray)) := HB.out.trans ((below_setRow ((Below.refl wr.heap.size wr).alloc (Nat.le_refl _) _) (Nat.le_refl _) _).mono HB.out.size)
      have hrow : ((wr.alloc (.cells (fltCells fltNil).toArray 29)).setRow wr.heap.size (fltCells x).toArray).heap[wr.heap.size]? = some (.cells (fltCells x).toArray 29 (0, 0)) := setRow_heap _ _ _ _ _ _ (heap_alloc_last wr _)
      have e0 : ((wr.alloc (.cells (fltCells fltNil).toArray 29)).setRow wr.heap.size (fltCells x).toArray).cell? ⟨wr.heap.size, 0, none⟩ = some (.int .i64 x.kind) := by rw [cell_of_row _ _ 0 _ _ _ hrow]; rfl
      have e3 : ((wr.alloc (.cells (fltCells fltNil).toArray 29)).setRow wr.heap.size (fltCells x).toArray).cell? ⟨wr.heap.size, 3, none⟩ = some (.int .i64 x.target) := by rw [cell_of_row _ _ 3 _ _ _ hrow]; rfl
      have e4 : ((wr.alloc (.cells (fltCells fltNil).toArray 29)).setRow wr.heap.size (fltCells x).toArray).cell? ⟨wr.heap.size, 4, none⟩ = some (.int .i64 x.byte) := by rw [cell_of_row _ _ 4 _ _ _ hrow]; rfl
      clear hr hx hrow
      by_cases k1 : x.kind = 1
      · have q1 : (x.kind == 1) = true := by rw [k1]; rfl
        have HX : Hid (fateV l = .iface 83 (.agg #[])) := by show _ = _; rw [HD.out, if_pos k1]
        clear k1 HD
        go_wp2_with (first | ((with_reducible refine wpList_load_at 29 (.tmp 9) b (off + k * 6) (fltCells x) HUF.out ?_ ?_ ?_ ?_ ?_); (exact rfl); (exact hcells.out); (exact rfl); (exact info_flt); simp only [Act.put, List.setIfInBounds_toArray, List.set_cons_zero, List.set_cons_succ]) | ((with_reducible refine wpList_alloc_ob 29 (fltCells fltNil) ?_ ?_); (exact alloc_flt); simp only [Act.put, List.setIfInBounds_toArray, List.set_cons_zero, List.set_cons_succ]) | ((with_reducible refine wpList_store_ob 29 (.tmp 4) wr.heap.size (fltCells x) (fltCells fltNil) 29 ?_ ?_ ?_ ?_ ?_ ?_ ?_); (exact rfl); (exact rfl); (exact heap_alloc_last wr _); (exact info_flt); (exact rfl); (exact oneCell_flt _); skip))
        go_ret
        exact ⟨by rw [HX.out]; rfl, HW1.out⟩
      have q1 : (x.kind == 1) = false := by rw [beq_eq_false_iff_ne]; exact k1
      by_cases k2 : x.kind = 2
      · have q2 : (x.kind == 2) = true := by rw [k2]; rfl
        have HX : Hid (fateV l = .iface 85 (.agg #[.int .i64 x.target])) := by show _ = _; rw [HD.out, if_neg k1, if_pos k2]
        clear k1 k2 HD
        go_wp2_with (first | ((with_reducible refine wpList_load_at 29 (.tmp 9) b (off + k * 6) (fltCells x) HUF.out ?_ ?_ ?_ ?_ ?_); (exact rfl); (exact hcells.out); (exact rfl); (exact info_flt); simp only [Act.put, List.setIfInBounds_toArray, List.set_cons_zero, List.set_cons_succ]) | ((with_reducible refine wpList_alloc_ob 29 (fltCells fltNil) ?_ ?_); (exact alloc_flt); simp only [Act.put, List.setIfInBounds_toArray, List.set_cons_zero, List.set_cons_succ]) | ((with_reducible refine wpList_store_ob 29 (.tmp 4) wr.heap.size (fltCells x) (fltCells fltNil) 29 ?_ ?_ ?_ ?_ ?_ ?_ ?_); (exact rfl); (exact rfl); (exact heap_alloc_last wr _); (exact info_flt); (exact rfl); (exact oneCell_flt _); skip))
        go_ret
        exact ⟨by rw [HX.out]; rfl, HW1.out⟩
      have q2 : (x.kind == 2) = false := by rw [beq_eq_false_iff_ne]; exact k2
      by_cases k3 : x.kind = 3
      · have q3 : (x.kind == 3) = true := by rw [k3]; rfl
        have HX : Hid (fateV l = .iface 87 (.agg #[.int .i64 x.byte])) := by show _ = _; rw [HD.out, if_neg k1, if_neg k2, if_pos k3]
        clear k1 k2 k3 HD
        go_wp2_with (first | ((with_reducible refine wpList_load_at 29 (.tmp 9) b (off + k * 6) (fltCells x) HUF.out ?_ ?_ ?_ ?_ ?_); (exact rfl); (exact hcells.out); (exact rfl); (exact info_flt); simp only [Act.put, List.setIfInBounds_toArray, List.set_cons_zero, List.set_cons_succ]) | ((with_reducible refine wpList_alloc_ob 29 (fltCells fltNil) ?_ ?_); (exact alloc_flt); simp only [Act.put, List.setIfInBounds_toArray, List.set_cons_zero, List.set_cons_succ]) | ((with_reducible refine wpList_store_ob 29 (.tmp 4) wr.heap.size (fltCells x) (fltCells fltNil) 29 ?_ ?_ ?_ ?_ ?_ ?_ ?_); (exact rfl); (exact rfl); (exact heap_alloc_last wr _); (exact info_flt); (exact rfl); (exact oneCell_flt _); skip))
        go_ret
        exact ⟨by rw [HX.out]; rfl, HW1.out⟩
      have q3 : (x.kind == 3) = false := by rw [beq_eq_false_iff_ne]; exact k3
      have HX : Hid (fateV (l.drop (k + 1)) = fateV l) := by show _ = _; rw [HD.out, if_neg k1, if_neg k2, if_neg k3]
      clear k1 k2 k3 HD
      go_wp2_with (first | ((with_reducible refine wpList_load_at 29 (.tmp 9) b (off + k * 6) (fltCells x) HUF.out ?_ ?_ ?_ ?_ ?_); (exact rfl); (exact hcells.out); (exact rfl); (exact info_flt); simp only [Act.put, List.setIfInBounds_toArray, List.set_cons_zero, List.set_cons_succ]) | ((with_reducible refine wpList_alloc_ob 29 (fltCells fltNil) ?_ ?_); (exact alloc_flt); simp only [Act.put, List.setIfInBounds_toArray, List.set_cons_zero, List.set_cons_succ]) | ((with_reducible refine wpList_store_ob 29 (.tmp 4) wr.heap.size (fltCells x) (fltCells fltNil) 29 ?_ ?_ ?_ ?_ ?_ ?_ ?_); (exact rfl); (exact rfl); (exact heap_alloc_last wr _); (exact info_flt); (exact rfl); (exact oneCell_flt _); skip))
      go_roundw
      case rel => exact ⟨k + 1, by omega, by go_num, HX.out, HW1.out⟩
      case measure => simp [intOf]; omega
    · obtain rfl : k = l.length := by omega
      have HX : Hid (fateV l = .iface 88 (.agg #[])) := by show _ = _; rw [← HH.out, List.drop_length]; rfl
      clear hg
      go_wp2_with fail
      go_ret
      exact ⟨by rw [HX.out]; rfl, HB.out⟩
end Go.Proofs.Ythcjkbhkidijoaa
/- the program's carryOut -/
namespace Go.Proofs.Ythcjkbhkidijoaa
open Go.RowKit
set_option maxRecDepth 20000
set_option linter.unusedSimpArgs false
set_option linter.unusedVariables false

theorem ta_lost_lost (W : World) : Sem.run Try.prog (Instr.typeAssert (.iface 83 (.agg #[])) 20 83 true) W = .ok (.tuple #[.agg #[], .bool true]) W := by kernel_rfl
theorem ta_astray_lost (n : Int) (W : World) : Sem.run Try.prog (Instr.typeAssert (.iface 85 (.agg #[.int .i64 n])) 20 83 true) W = .ok (.tuple #[.agg #[], .bool false]) W := by kernel_rfl
theorem ta_astray_astray (n : Int) (W : World) : Sem.run Try.prog (Instr.typeAssert (.iface 85 (.agg #[.int .i64 n])) 20 85 true) W = .ok (.tuple #[.agg #[.int .i64 n], .bool true]) W := by kernel_rfl
theorem ta_torn_lost (n : Int) (W : World) : Sem.run Try.prog (Instr.typeAssert (.iface 87 (.agg #[.int .i64 n])) 20 83 true) W = .ok (.tuple #[.agg #[], .bool false]) W := by kernel_rfl
theorem ta_torn_astray (n : Int) (W : World) : Sem.run Try.prog (Instr.typeAssert (.iface 87 (.agg #[.int .i64 n])) 20 85 true) W = .ok (.tuple #[.agg #[.int .i64 0], .bool false]) W := by kernel_rfl
theorem ta_torn_torn (n : Int) (W : World) : Sem.run Try.prog (Instr.typeAssert (.iface 87 (.agg #[.int .i64 n])) 20 87 true) W = .ok (.tuple #[.agg #[.int .i64 n], .bool true]) W := by kernel_rfl
theorem ta_whole_lost (W : World) : Sem.run Try.prog (Instr.typeAssert (.iface 88 (.agg #[])) 20 83 true) W = .ok (.tuple #[.agg #[], .bool false]) W := by kernel_rfl
theorem ta_whole_astray (W : World) : Sem.run Try.prog (Instr.typeAssert (.iface 88 (.agg #[])) 20 85 true) W = .ok (.tuple #[.agg #[.int .i64 0], .bool false]) W := by kernel_rfl
theorem ta_whole_torn (W : World) : Sem.run Try.prog (Instr.typeAssert (.iface 88 (.agg #[])) 20 87 true) W = .ok (.tuple #[.agg #[.int .i64 0], .bool false]) W := by kernel_rfl
theorem ta_whole_whole (W : World) : Sem.run Try.prog (Instr.typeAssert (.iface 88 (.agg #[])) 20 88 true) W = .ok (.tuple #[.agg #[], .bool true]) W := by kernel_rfl
theorem alloc_emp (t : TypeId) (h : ∀ W, Sem.run Try.prog (Instr.alloc t true (.tuple #[])) W = .ok (.pointer (some ⟨W.heap.size, 0, none⟩)) (W.alloc (.cells #[] t))) : ∀ W, Sem.run Try.prog (Instr.alloc t true (.tuple #[])) W = .ok (.pointer (some ⟨W.heap.size, 0, none⟩)) (W.alloc (.cells #[] t)) := h
set_option maxHeartbeats 4000000 in
theorem carry_lost {w0 W : World} {M : List Th} {b : Nat} {p u f : Value} {d : Dv} (s : ByteArray) (page : Int) (h : Hp w0 (DvTh b p u f d M) W) :
    Calls Try.prog 44 #[.pointer (some ⟨b, 0, none⟩), .int .i64 page, .string s, .iface 83 (.agg #[])] W fun e W' => e = .returned (.tuple #[]) ∧ ∃ u', Hp w0 (DvTh b p u' f d M) W' := by
  have t_lost := ta_lost_lost
  have HS0 := Lib.hid h
  clear h
  go_enter Try.func44, Try.ntmps44
  go_wp2_with fail
  refine bodyPost_end (v := .tuple #[]) (by simp [results, Try.results44, go_sem]) rfl ⟨rfl, u, ?_⟩
  exact HS0.out.calls ((Below.refl _ _).alloc (Nat.le_refl _) _)
set_option maxHeartbeats 4000000 in
theorem carry_astray {w0 W : World} {M : List Th} {b : Nat} {p u f : Value} {d : Dv} (s : ByteArray) (h : Hp w0 (DvTh b p u f d M) W) (k : Nat) (hk : k < d.pages.length) (hold : ∀ s ∈ d.pages, s.size = 256) (hs : s.size = 256) (hu : d.unread.length ≤ 1000) (hp : d.pages.length ≤ 1000) (page : Int) :
    Calls Try.prog 44 #[.pointer (some ⟨b, 0, none⟩), .int .i64 page, .string s, .iface 85 (.agg #[.int .i64 k])] W fun e W' => e = .returned (.tuple #[]) ∧ ∃ u', Hp w0 (DvTh b p u' f (dputR d k s) M) W' := by
  have t_lost := ta_astray_lost (k : Int)
  have t_astray := ta_astray_astray (k : Int)
  have HPut : Hid (∀ W1, Hp w0 (DvTh b p u f d M) W1 → Calls Try.prog 55 #[.pointer (some ⟨b, 0, none⟩), .int .i64 k, .string s] W1 fun e W' => e = .returned (.tuple #[]) ∧ ∃ u', Hp w0 (DvTh b p u' f (dputR d k s) M) W') := fun W1 h1 => put_any s k h1 hk hold (by omega) hu hp
  have HS0 := Lib.hid h
  clear h hk hold hs hu hp
  go_enter Try.func44, Try.ntmps44
  go_wp2_with fail
  refine (HPut.out _ (HS0.out.calls ((Below.refl _ _).alloc (Nat.le_refl _) _))).mono ?_
  rintro e w2 ⟨rfl, hx⟩
  have HX := Lib.hid hx
  clear hx HS0 HPut
  go_wp2_with fail
  exact bodyPost_end (v := .tuple #[]) (by simp [results, Try.results44, go_sem]) rfl ⟨rfl, HX.out⟩
set_option maxHeartbeats 4000000 in
theorem carry_torn {w0 W : World} {M : List Th} {b : Nat} {p u f : Value} {d : Dv} (s : ByteArray) (h : Hp w0 (DvTh b p u f d M) W) (k : Nat) (hk : k < d.pages.length) (hold : ∀ s ∈ d.pages, s.size = 256) (hs : s.size = 256) (hu : d.unread.length ≤ 1000) (hp : d.pages.length ≤ 1000) (n : Nat) (hn : n ≤ 256) :
    Calls Try.prog 44 #[.pointer (some ⟨b, 0, none⟩), .int .i64 k, .string s, .iface 87 (.agg #[.int .i64 n])] W fun e W' => e = .returned (.tuple #[]) ∧ ∃ u', Hp w0 (DvTh b p u' f (dputR d k (s.extract 0 n)) M) W' := by
  have t_lost := ta_torn_lost (n : Int)
  have t_astray := ta_torn_astray (n : Int)
  have t_torn := ta_torn_torn (n : Int)
  have HPut : Hid (∀ W1, Hp w0 (DvTh b p u f d M) W1 → Calls Try.prog 55 #[.pointer (some ⟨b, 0, none⟩), .int .i64 k, .string (s.extract 0 n)] W1 fun e W' => e = .returned (.tuple #[]) ∧ ∃ u', Hp w0 (DvTh b p u' f (dputR d k (s.extract 0 n)) M) W') := fun W1 h1 => put_any (s.extract 0 n) k h1 hk hold (by rw [ByteArray.size_extract]; omega) hu hp
  have hn0 : (0 : Int) ≤ (n : Int) := by omega
  have hn1 : (n : Int) ≤ (s.size : Int) := by omega
  have hsz : (s.size : Int) = 256 := by omega
  have HS0 := Lib.hid h
  clear h hk hold hs hu hp hn
  go_enter Try.func44, Try.ntmps44
  go_wp2_with fail
  refine (HPut.out _ (HS0.out.calls ((Below.refl _ _).alloc (Nat.le_refl _) _))).mono ?_
  rintro e w2 ⟨rfl, hx⟩
  have HX := Lib.hid hx
  clear hx HS0 HPut
  go_wp2_with fail
  exact bodyPost_end (v := .tuple #[]) (by simp [results, Try.results44, go_sem]) rfl ⟨rfl, HX.out⟩
set_option maxHeartbeats 4000000 in
theorem carry_whole {w0 W : World} {M : List Th} {b : Nat} {p u f : Value} {d : Dv} (s : ByteArray) (h : Hp w0 (DvTh b p u f d M) W) (k : Nat) (hk : k < d.pages.length) (hold : ∀ s ∈ d.pages, s.size = 256) (hs : s.size = 256) (hu : d.unread.length ≤ 1000) (hp : d.pages.length ≤ 1000) :
    Calls Try.prog 44 #[.pointer (some ⟨b, 0, none⟩), .int .i64 k, .string s, .iface 88 (.agg #[])] W fun e W' => e = .returned (.tuple #[]) ∧ ∃ u', Hp w0 (DvTh b p u' f (dputR d k s) M) W' := by
  have t_lost := ta_whole_lost
  have t_astray := ta_whole_astray
  have t_torn := ta_whole_torn
  have t_whole := ta_whole_whole
  have HPut : Hid (∀ W1, Hp w0 (DvTh b p u f d M) W1 → Calls Try.prog 55 #[.pointer (some ⟨b, 0, none⟩), .int .i64 k, .string s] W1 fun e W' => e = .returned (.tuple #[]) ∧ ∃ u', Hp w0 (DvTh b p u' f (dputR d k s) M) W') := fun W1 h1 => put_any s k h1 hk hold (by omega) hu hp
  have HS0 := Lib.hid h
  clear h hk hold hs hu hp
  go_enter Try.func44, Try.ntmps44
  go_wp2_with fail
  refine (HPut.out _ (HS0.out.calls ((Below.refl _ _).alloc (Nat.le_refl _) _))).mono ?_
  rintro e w2 ⟨rfl, hx⟩
  have HX := Lib.hid hx
  clear hx HS0 HPut
  go_wp2_with fail
  exact bodyPost_end (v := .tuple #[]) (by simp [results, Try.results44, go_sem]) rfl ⟨rfl, HX.out⟩
end Go.Proofs.Ythcjkbhkidijoaa
/- the program's strike: a byte rots -/
namespace Go.Proofs.Ythcjkbhkidijoaa
open Go.RowKit
set_option maxRecDepth 20000
set_option linter.unusedSimpArgs false
set_option linter.unusedVariables false

theorem xor_b (a b : UInt8) : bits .xor .u8 (a.toNat : Int) (b.toNat : Int) = ((a ^^^ b).toNat : Int) := by
  rw [u8_xor_nat _ _ a.toNat_lt b.toNat_lt, UInt8.toNat_xor]
theorem ba_size (s : ByteArray) : s.data.toList.length = s.size := by rw [Array.length_toList]; rfl
/-- a row of bytes of the walk's own -/
structure ByR (w : World) (B : Nat) (l : List UInt8) : Prop where
  lt : B < w.heap.size
  cell : ∀ i (h : i < l.length), w.cell? ⟨B, i, none⟩ = some (.int .u8 (l[i].toNat : Int))
  frozen : ∀ i, i < l.length → w.frozen? ⟨B, i, none⟩ = false
theorem text_by (w : World) (s : ByteArray) : ∃ w2 cap, Sem.run Try.prog (convert 9 22 (.string s)) w = .ok (.slice (some ⟨w.heap.size, 0, none⟩) s.size cap) w2 ∧ s.size ≤ cap ∧ Below w.heap.size w w2 ∧ ByR w2 w.heap.size s.data.toList := by
  refine ⟨_, _, Go.Lib.run_convert_string_bytes (P := Try.prog) w 9 22 5 s Try.underlying9 Try.underlying22 Try.underlying5, grownCap_ge _ _ _ _, ⟨rfl, rfl, rfl, by rw [Go.Lib.bytesWorld_size]; omega, fun k hk => Go.Lib.bytesWorld_at_old _ _ _ _ hk⟩, ⟨by rw [Go.Lib.bytesWorld_size]; omega, fun i hi => ?_, fun i hi => ?_⟩⟩
  · rw [Go.Lib.bytesWorld_cell _ _ _ _ (by rw [← ba_size]; exact hi), List.getD_eq_getElem?_getD, List.getElem?_eq_getElem hi]
    rfl
  · have hn := Go.Lib.bytesWorld_at_new w 5 s
    have hz : s.size ≤ (Go.Lib.bytesCells w 5 s).size := by
      unfold Go.Lib.bytesCells
      rw [Array.size_append, Array.size_map]
      show s.data.size ≤ _
      omega
    have hi' : i < s.size := by rw [← ba_size]; exact hi
    simp [World.frozen?, hn]
    omega
theorem ByR.drew {w : World} {B : Nat} {l : List UInt8} (h : ByR w B l) : ByR w.drew B l := ⟨h.lt, h.cell, h.frozen⟩
theorem ByR.set {w : World} {B : Nat} {l : List UInt8} (h : ByR w B l) (k : Nat) (hk : k < l.length) (u : UInt8) : ByR (w.setCell ⟨B, k, none⟩ (.int .u8 (u.toNat : Int))) B (l.set k u) := by
  refine ⟨by simp [World.setCell]; exact h.lt, fun i hi => ?_, fun i hi => ?_⟩
  · rw [List.length_set] at hi
    rw [List.getElem_set]
    by_cases e : k = i
    · subst e
      rw [if_pos rfl, World.cell?_setCell_same _ _ _ (h.cell k hk)]
    · rw [if_neg e, World.cell?_setCell_other _ _ _ _ (by intro h'; cases h'; exact e rfl)]
      exact h.cell i hi
  · rw [List.length_set] at hi
    rw [World.frozen?_setCell]
    exact h.frozen i hi
theorem ByR.conv {w : World} {B : Nat} {l : List UInt8} (h : ByR w B l) (c : Nat) : Sem.run Try.prog (convert 22 9 (.slice (some ⟨B, 0, none⟩) l.length c)) w = .ok (.string ⟨l.toArray⟩) w :=
  run_convert_bytes_back (P := Try.prog) w 22 9 5 ⟨B, 0, none⟩ c l Try.underlying22 Try.underlying5 Try.underlying9 (fun j hj => by
    rw [Addr.add_mid, Nat.zero_add]
    exact h.cell j hj)
theorem modify_set {α : Type} (l : List α) (f : α → α) (k : Nat) (h : k < l.length) : l.modify k f = l.set k (f l[k]) := by
  apply List.ext_getElem
  · simp
  · intro i h1 h2
    rw [List.getElem_modify, List.getElem_set]
    by_cases e : k = i
    · subst e; simp
    · simp [e]
theorem below_undrew {n : Nat} {a b : World} (h : Below n a.drew b) : Below n a b := ⟨h.os, h.tape, h.output, h.size, h.block⟩
theorem rotR_list (y : ByteArray) (j : Nat) (m : UInt8) (hj : j < y.data.toList.length) : (⟨(y.data.toList.set j (y.data.toList[j] ^^^ m)).toArray⟩ : ByteArray) = rotR y j (m.toNat : Int) := by
  unfold rotR
  congr 1
  apply Array.toList_inj.1
  rw [Array.toList_modify]
  simp only [Int.toNat_natCast, UInt8.ofNat_toNat]
  rw [modify_set _ _ _ hj]
set_option maxHeartbeats 8000000 in
theorem strike_rot {w0 W : World} {M : List Th} {b : Nat} {p u f : Value} {d : Dv} (x : Flt) (h : Hp w0 (DvTh b p u f d M) W) (hx : x.kind = 4) (k : Nat) (hk : x.page = k) (hkp : k < d.pages.length) (hold : ∀ s ∈ d.pages, s.size = 256) (j : Nat) (hj : x.byte = j) (hjb : j < 256) (m : UInt8) (hm : x.mask = (m.toNat : Int)) (hp : d.pages.length ≤ 1000) :
    Calls Try.prog 46 #[.pointer (some ⟨b, 0, none⟩), .agg (fltCells x).toArray] W fun e W' => e = .returned (.tuple #[]) ∧ ∃ u', Hp w0 (DvTh b p u' f (happenR d x) M) W' := by
  have hpo := h.own 1 rfl
  rcases hpo.2 with ⟨_, h0⟩ | ⟨g, cap, cur, rfl, hB, hg, h1, h2, h3, h4⟩
  · omega
  obtain ⟨kd, at_, pg, tg, by_, ms⟩ := x
  simp only at hx hk hj hm
  subst hx hk hj hm
  obtain ⟨y, hy⟩ : ∃ y, d.pages[k] = y := ⟨_, rfl⟩
  have hys : y.size = 256 := by rw [← hy]; exact hold _ (List.getElem_mem hkp)
  have hjl : j < y.data.toList.length := by rw [ba_size]; omega
  have HHap : Hid (happenR d ⟨4, at_, k, tg, j, m.toNat⟩ = ⟨d.pages.set k (rotR y j m.toNat), d.writes, d.unread, d.dead, d.faults⟩) := by
    show _ = _
    unfold happenR
    rw [if_pos rfl]
    simp only [Int.toNat_natCast]
    rw [modify_set _ _ _ hkp, hy]
  have HS0 : Hid (Hp w0 (.ob b 27 (dvCells (.slice (some ⟨g, 0, none⟩) d.pages.length cap) d u f) :: .sl (.slice (some ⟨g, 0, none⟩) d.pages.length cap) 9 1 d.pages.length (strRow d.pages) :: .sl u 3 1 d.unread.length (intRow d.unread) :: .ob W.heap.size 29 (fltCells ⟨4, at_, k, tg, j, m.toNat⟩) :: M) (W.alloc (.cells #[.int .i64 4, .int .i64 at_, .int .i64 k, .int .i64 tg, .int .i64 j, .int .u8 m.toNat] 29))) := h.ins [_, _, _] 29 _
  have HKp := Lib.hid hkp
  have HPat : Hid ((strRow d.pages)[k]? = some (.string y)) := by show _ = _; rw [strRow_at d.pages k hkp, hy]
  obtain ⟨w2, cap2, hconv, hc2, hb2, hby⟩ := text_by (W.alloc (.cells #[.int .i64 4, .int .i64 at_, .int .i64 k, .int .i64 tg, .int .i64 j, .int .u8 m.toNat] 29)).drew y
  have hsz : (W.alloc (.cells #[.int .i64 4, .int .i64 at_, .int .i64 k, .int .i64 tg, .int .i64 j, .int .u8 m.toNat] 29)).drew.heap.size = W.heap.size + 1 := by simp
  rw [hsz, hys] at hconv
  rw [hsz] at hby hb2
  obtain ⟨z, hz⟩ : ∃ z : UInt8, y.data.toList[j] ^^^ m = z := ⟨_, rfl⟩
  have hxor := xor_b (y.data.toList[j]) m
  rw [hz] at hxor
  have HRot : Hid ((⟨(y.data.toList.set j z).toArray⟩ : ByteArray) = rotR y j m.toNat) := by show _ = _; rw [← hz]; exact rotR_list y j m hjl
  have hcj := hby.cell j hjl
  have hfj := hby.frozen j hjl
  have HBy3 : Hid (ByR (w2.setCell ⟨W.heap.size + 1, j, none⟩ (.int .u8 (z.toNat : Int))).drew.drew (W.heap.size + 1) (y.data.toList.set j z)) := (hby.set j hjl z).drew.drew
  have hcv2 := HBy3.out.conv cap2
  rw [List.length_set, ba_size, hys, HRot.out] at hcv2
  obtain ⟨zz, hzz⟩ : ∃ zz, rotR y j m.toNat = zz := ⟨_, rfl⟩
  rw [hzz] at hcv2
  have HZ := Lib.hid hzz
  have HB2 : Hid (Below (W.heap.size + 1) (W.alloc (.cells #[.int .i64 4, .int .i64 at_, .int .i64 k, .int .i64 tg, .int .i64 j, .int .u8 m.toNat] 29)) w2) := below_undrew hb2
  have HSz := Lib.hid hsz
  have HS2 : Hid (Hp w0 (.ob b 27 (dvCells (.slice (some ⟨g, 0, none⟩) d.pages.length cap) d u f) :: .sl (.slice (some ⟨g, 0, none⟩) d.pages.length cap) 9 1 d.pages.length (strRow d.pages) :: .sl u 3 1 d.unread.length (intRow d.unread) :: .ob W.heap.size 29 (fltCells ⟨4, at_, k, tg, j, m.toNat⟩) :: M) w2) := HS0.out.calls (by rw [show (W.alloc _).heap.size = W.heap.size + 1 from hsz]; exact below_undrew hb2)
  have HS3 : Hid (Hp w0 (.ob b 27 (dvCells (.slice (some ⟨g, 0, none⟩) d.pages.length cap) d u f) :: .sl (.slice (some ⟨g, 0, none⟩) d.pages.length cap) 9 1 d.pages.length (strRow d.pages) :: .sl u 3 1 d.unread.length (intRow d.unread) :: .ob W.heap.size 29 (fltCells ⟨4, at_, k, tg, j, m.toNat⟩) :: M) (w2.setCell ⟨W.heap.size + 1, j, none⟩ (.int .u8 (z.toNat : Int)))) := HS0.out.calls (by
    rw [show (W.alloc _).heap.size = W.heap.size + 1 from hsz]
    exact (below_undrew hb2).setCell (p := ⟨W.heap.size + 1, j, none⟩) (Nat.le_refl _) _)
  clear hsz hb2 hby hc2 hz hzz
  have a0 := HS0.out.drew.at 0 rfl 0 rfl
  have ac := (HS0.out.drew.slcell 1 rfl k HPat.out).1
  have e4 := HS2.out.at 3 rfl 4 rfl
  have e5 := HS2.out.at 3 rfl 5 rfl
  have g0 := HS3.out.at 0 rfl 0 rfl
  have g2 := HS3.out.at 3 rfl 2 rfl
  have gc := (HS3.out.slcell 1 rfl k HPat.out).1
  have gf := (HS3.out.slcell 1 rfl k HPat.out).2
  generalize hyj : (y.data.toList[j].toNat : Int) = yj at *
  generalize (m.toNat : Int) = mi at *
  generalize (z.toNat : Int) = zi at *
  have hk0 : (0 : Int) ≤ (k : Int) := by omega
  have hkn : (k : Int) < (d.pages.length : Int) := by omega
  have hj0 : (0 : Int) ≤ (j : Int) := by omega
  have hjn : (j : Int) < 256 := by omega
  clear h hold hpo hB hg h1 h2 h3 h4 hp hkp hy hyj hjl hjb hys
  show Calls Try.prog 46 #[.pointer (some ⟨b, 0, none⟩), .agg #[.int .i64 4, .int .i64 at_, .int .i64 k, .int .i64 tg, .int .i64 j, .int .u8 mi]] W _
  go_enter Try.func46, Try.ntmps46
  go_wp2_with fail
  go_region
  go_wp2_with fail
  go_region
  go_wp2_with fail
  go_region
  go_wp2_with fail
  refine bodyPost_end (v := .tuple #[]) (by simp [results, Try.results46, go_sem]) rfl ⟨rfl, u, ?_⟩
  have h4 := (HS3.out.slset 1 rfl k HKp.out (.string zz)).drew.drew
  rw [strRow_set] at h4
  have h5 := Hp.del [_, _, _] h4
  rw [HHap.out, HZ.out]
  show Hp w0 (.ob b _ _ :: .sl (.slice (some ⟨g, 0, none⟩) d.pages.length cap) _ 1 (d.pages.set k zz).length _ :: _) _
  rw [List.length_set]
  exact h5
set_option maxHeartbeats 8000000 in
theorem strike_dead {w0 W : World} {M : List Th} {b : Nat} {p u f : Value} {d : Dv} (x : Flt) (h : Hp w0 (DvTh b p u f d M) W) (hx : x.kind = 6) :
    Calls Try.prog 46 #[.pointer (some ⟨b, 0, none⟩), .agg (fltCells x).toArray] W fun e W' => e = .returned (.tuple #[]) ∧ ∃ u', Hp w0 (DvTh b p u' f (happenR d x) M) W' := by
  obtain ⟨kd, at_, pg, tg, by_, ms⟩ := x
  simp only at hx
  subst hx
  have HHap : Hid (happenR d ⟨6, at_, pg, tg, by_, ms⟩ = ⟨d.pages, d.writes, d.unread, true, d.faults⟩) := rfl
  have HS0 : Hid (Hp w0 (.ob b 27 (dvCells p d u f) :: .sl p 9 1 d.pages.length (strRow d.pages) :: .sl u 3 1 d.unread.length (intRow d.unread) :: .ob W.heap.size 29 (fltCells ⟨6, at_, pg, tg, by_, ms⟩) :: M) (W.alloc (.cells #[.int .i64 6, .int .i64 at_, .int .i64 pg, .int .i64 tg, .int .i64 by_, .int .u8 ms] 29))) := h.ins [_, _, _] 29 _
  have b3 := HS0.out.at 0 rfl 3 rfl
  have f3 := HS0.out.frozen 0 rfl 3
  clear h
  show Calls Try.prog 46 #[.pointer (some ⟨b, 0, none⟩), .agg #[.int .i64 6, .int .i64 at_, .int .i64 pg, .int .i64 tg, .int .i64 by_, .int .u8 ms]] W _
  go_enter Try.func46, Try.ntmps46
  go_wp2_with fail
  refine bodyPost_end (v := .tuple #[]) (by simp [results, Try.results46, go_sem]) rfl ⟨rfl, u, ?_⟩
  rw [HHap.out]
  exact Hp.del [_, _, _] (HS0.out.set 0 rfl 3 (.bool true))
set_option maxHeartbeats 8000000 in
theorem strike_none {w0 W : World} {M : List Th} {b : Nat} {p u f : Value} {d : Dv} (x : Flt) (h : Hp w0 (DvTh b p u f d M) W) (h4 : ¬ x.kind = 4) (h5 : ¬ x.kind = 5) (h6 : ¬ x.kind = 6) :
    Calls Try.prog 46 #[.pointer (some ⟨b, 0, none⟩), .agg (fltCells x).toArray] W fun e W' => e = .returned (.tuple #[]) ∧ ∃ u', Hp w0 (DvTh b p u' f (happenR d x) M) W' := by
  have HHap : Hid (happenR d x = d) := by show _ = _; unfold happenR; rw [if_neg h4, if_neg h5, if_neg h6]
  have HB : Hid (Hp w0 (DvTh b p u f d M) (W.alloc (.cells (fltCells x).toArray 29))) := h.calls ((Below.refl _ _).alloc (Nat.le_refl _) _)
  have q4 : (x.kind == 4) = false := by rw [beq_eq_false_iff_ne]; exact h4
  have q5 : (x.kind == 5) = false := by rw [beq_eq_false_iff_ne]; exact h5
  have q6 : (x.kind == 6) = false := by rw [beq_eq_false_iff_ne]; exact h6
  clear h h4 h5 h6
  obtain ⟨kd, at_, pg, tg, by_, ms⟩ := x
  simp only at q4 q5 q6
  show Calls Try.prog 46 #[.pointer (some ⟨b, 0, none⟩), .agg #[.int .i64 kd, .int .i64 at_, .int .i64 pg, .int .i64 tg, .int .i64 by_, .int .u8 ms]] W _
  go_enter Try.func46, Try.ntmps46
  go_wp2_with fail
  refine bodyPost_end (v := .tuple #[]) (by simp [results, Try.results46, go_sem]) rfl ⟨rfl, u, ?_⟩
  rw [HHap.out]
  exact HB.out
end Go.Proofs.Ythcjkbhkidijoaa
/- the walk of the reference's 'with' -/
namespace Go.Proofs.Ythcjkbhkidijoaa
open Go.RowKit
set_option maxRecDepth 20000

theorem withR_low {n : Int} : ∀ {l : List Int}, (∀ x ∈ l, x < n) → withR n l = l ++ [n]
  | [], _ => rfl
  | x :: l, h => by
    have hx := h x (List.mem_cons_self ..)
    unfold withR
    rw [if_neg (by omega), withR_low (fun y hy => h y (List.mem_cons_of_mem _ hy))]
    rfl
theorem without_snoc (l : List Int) (n y : Int) : withoutR (l ++ [y]) n = withoutR l n ++ (if y = n then [] else [y]) := by
  unfold withoutR
  rw [List.filter_append]
  congr 1
  by_cases e : y = n <;> simp [e]
theorem withR_here {n y : Int} (hy : n ≤ y) : ∀ {l : List Int}, (∀ x ∈ l, x < n) → withR n (l ++ [y]) = (l ++ [n]) ++ (if y = n then [] else [y])
  | [], _ => by
    show withR n [y] = _
    unfold withR
    rw [if_pos hy]
    by_cases e : y = n <;> simp [withoutR, e]
  | x :: l, h => by
    have hx := h x (List.mem_cons_self ..)
    show withR n (x :: (l ++ [y])) = _
    unfold withR
    rw [if_neg (by omega), withR_here hy (fun z hz => h z (List.mem_cons_of_mem _ hz))]
    rfl
theorem withR_past {n y : Int} : ∀ {l : List Int}, (∃ x ∈ l, n ≤ x) → withR n (l ++ [y]) = withR n l ++ (if y = n then [] else [y])
  | [], h => by obtain ⟨x, hx, _⟩ := h; cases hx
  | x :: l, h => by
    show withR n (x :: (l ++ [y])) = _
    unfold withR
    by_cases hx : n ≤ x
    · rw [if_pos hx, if_pos hx, show x :: (l ++ [y]) = (x :: l) ++ [y] from rfl, without_snoc]
      rfl
    · rw [if_neg hx, if_neg hx, withR_past (by
        obtain ⟨z, hz, hn⟩ := h
        rcases List.mem_cons.1 hz with rfl | hz
        · exact absurd hn hx
        · exact ⟨z, hz, hn⟩)]
      rfl
/-- how far the list is: dn, whether the number is in it -/
def WithSt (n : Int) (dn : Bool) (l out : List Int) : Prop := if dn = true then out = withR n l ∧ ∃ x ∈ l, n ≤ x else out = l ∧ ∀ x ∈ l, x < n
theorem WithSt.end {n : Int} {l out : List Int} : ∀ {dn : Bool}, WithSt n dn l out → withR n l = if dn = true then out else out ++ [n]
  | true, h => by rw [if_pos rfl]; exact h.1.symm
  | false, h => by
    rw [if_neg (by decide), h.1]
    exact withR_low h.2
theorem WithSt.past {n y : Int} {l out : List Int} (h : WithSt n true l out) : WithSt n true (l ++ [y]) (out ++ (if y = n then [] else [y])) :=
  ⟨by rw [withR_past h.2, h.1], by
    obtain ⟨x, hx, hn⟩ := h.2
    exact ⟨x, List.mem_append_left _ hx, hn⟩⟩
theorem WithSt.here {n y : Int} {l out : List Int} (h : WithSt n false l out) (hy : n ≤ y) : WithSt n true (l ++ [y]) ((out ++ [n]) ++ (if y = n then [] else [y])) :=
  ⟨by rw [withR_here hy h.2, h.1], y, by simp, hy⟩
theorem WithSt.low {n y : Int} {l out : List Int} (h : WithSt n false l out) (hy : y < n) : WithSt n false (l ++ [y]) (out ++ [y]) :=
  ⟨by rw [h.1], fun x hx => by
    rcases List.mem_append.1 hx with hx | hx
    · exact h.2 x hx
    · rw [List.mem_singleton.1 hx]; exact hy⟩
theorem own_snoc {w W : World} {v : Value} {out : List Int} {y : Int} (h : Hp w [.sl v 3 1 (out.length + 1) (intRow out ++ [.int .i64 y])] W) : Hp w [.sl v 3 1 (out ++ [y]).length (intRow (out ++ [y]))] W := by
  rw [List.length_append]
  have e : intRow (out ++ [y]) = intRow out ++ [.int .i64 y] := by unfold intRow; rw [List.map_append]; rfl
  rw [e]
  exact h
set_option maxHeartbeats 8000000 in
set_option maxRecDepth 20000 in
theorem with_any (l : List Int) (n : Int) (v : Value) (R : List Rng) (w : World) (hv : SlRd v 1 l.length (intRow l) R) (hR : RdIn w R) (hl : l.length ≤ 1000) :
    Calls Try.prog 49 #[v, .int .i64 n] w fun e w' => ∃ u, e = .returned u ∧ Below w.heap.size w w' ∧ w'.ownsRow w.heap.size 3 1 u (withR n l).length (intRow (withR n l)) := by
  obtain ⟨a, cap, rfl, hnc, hcm, hg⟩ := hv.open hR
  have HC : Hid (l.length ≤ cap ∧ cap ≤ maxLen) := ⟨hnc, hcm⟩
  have HL := Lib.hid hl
  have HUI : Hid (Try.prog.underlying 24 = some (.slice 3)) := Try.underlying24
  clear hv hR hnc hcm hl
  go_enter Try.func49, Try.ntmps49
  go_wp2_with fail
  have HS0 : Hid (Hp w [.sl (.slice none 0 0) 3 1 0 []] w) := (Hp.start w).nil 3 1
  go_loopw [5, 6, 7] (fun sv sd i wr => ∃ (v : Value) (k : Nat) (dn : Bool) (out : List Int), k ≤ l.length ∧ v = sv ∧ sd = .bool dn ∧ i = .int .i64 k ∧ out.length ≤ k + 1 ∧ WithSt n dn (l.take k) out ∧ Hp w [.sl v 3 1 (out).length (intRow (out))] wr) (fun _ _ i _ => l.length - (intOf i).toNat)
  case atStart => exact ⟨_, 0, false, [], by omega, rfl, rfl, rfl, by simp, ⟨rfl, fun x hx => by cases hx⟩, HS0.out⟩
  case round =>
    obtain ⟨v, k, dn, out, hk, hsv, rfl, rfl, ho, hst, hs⟩ := hrel
    subst hsv
    clear HS0
    have HY := Lib.hid hs
    have HSt := Lib.hid hst
    have HO := Lib.hid ho
    clear hs hst ho
    by_cases hlt : k < l.length
    · obtain ⟨g, off, rfl, hr⟩ := hg.out (by omega)
      have hc : wr.cell? ⟨g, off + k, none⟩ = some (.int .i64 l[k]) := hr wr HY.out.old k _ (intRow_at l k hlt)
      have hki : (k : Int) < (l.length : Int) := by omega
      have hk0 : (0 : Int) ≤ (k : Int) := by omega
      have hkm : (k : Int) < 1000 := by have := HL.out; omega
      have HT : Hid (l.take (k + 1) = l.take k ++ [l[k]]) := List.take_succ_eq_append_getElem hlt
      have HG : Hid (∀ W, Below w.heap.size w W → W.cell? ⟨g, off + k, none⟩ = some (.int .i64 l[k])) := fun W hb => hr W hb k _ (intRow_at l k hlt)
      clear hr hg
      generalize l[k] = y at *
      cases dn
      case true =>
        by_cases heq : y = n
        · have hxb : (y != n) = false := by simp [heq]
          go_wp2_with fail
          go_roundw
          case rel => exact ⟨_, k + 1, true, _, by omega, rfl, rfl, by go_num, by have := HO.out; omega, by
            have h := HSt.out.past (y := y)
            rw [HT.out]
            rw [if_pos (by exact heq), List.append_nil] at h
            exact h, HY.out⟩
          case measure => simp [intOf]; omega
        · have hne := heq
          have hxb : (y != n) = true := by simp [heq]
          go_wp2_with (first | ((with_reducible refine wpList_build_vals 24 1 elem_i HUI.out [.int .i64 y] ?_ ?_ ?_ ?_ ?_ ?_); (exact (by intro v hv; simp only [List.mem_cons, List.not_mem_nil, or_false] at hv; subst hv; rfl)); (exact Nat.succ_pos _); (simp only [List.length_cons, List.length_nil]; omega); (exact rfl); (simp only [List.map_toArray, List.map_cons, List.map_nil, List.zipIdx_cons, List.zipIdx_nil]; exact rfl); simp only [Act.put, List.setIfInBounds_toArray, List.set_cons_zero, List.set_cons_succ]) | ((with_reducible refine wpList_append_hp ((HY.out).put 3 ([.int .i64 y])) (.tmp 34) (.tmp 39) 24 0 (v := v) (e := 3) (z := 1) (n := out.length) (xs := intRow out) ?_ 1 (b := (wr.heap.size)) (t' := 3) (ys := [.int .i64 y]) ?_ HUI.out elem_i 1 1 ?_ ?_ ?_ ?_ ?_ ?_); (exact rfl); (exact rfl); (exact rfl); (exact rfl); (exact rfl); (exact (one_i y)); (exact (by have := HO.out; first | omega | (simp only [List.length_append, List.length_cons, List.length_nil]; omega)))))
          intro v11 w11 hs hnil
          have HS12 : Hid (Hp w [.sl v11 3 1 (out.length + 1) ((intRow out) ++ ([.int .i64 y])), .ob (wr.heap.size) 3 ([.int .i64 y])] w11) := hs
          clear hs
          clear HY
          generalize wr.heap.size = B1 at *
          have HS13 : Hid (Hp w [.sl v11 3 1 (out.length + 1) ((intRow out) ++ ([.int .i64 y]))] w11) := HS12.out.pull [0] rfl (pull_nd HS12.out.nd [0] rfl (by decide))
          clear HS12
          have HS14 : Hid (Hp w [.sl v11 3 1 (out ++ [y]).length (intRow (out ++ [y]))] w11) := own_snoc HS13.out
          clear HS13
          go_wp2_with fail
          go_roundw
          case rel => exact ⟨_, k + 1, true, _, by omega, rfl, rfl, by go_num, by have := HO.out; simp only [List.length_append, List.length_cons, List.length_nil]; omega, by
            have h := HSt.out.past (y := y)
            rw [HT.out]
            rw [if_neg (by exact hne)] at h
            exact h, HS14.out⟩
          case measure => simp [intOf]; omega
      case false =>
        by_cases hlow : y < n
        · have hd : decide (n ≤ y) = false := decide_eq_false (by omega)
          have hxb : (y != n) = true := by simp; omega
          go_wp2_with (first | ((with_reducible refine wpList_build_vals 24 1 elem_i HUI.out [.int .i64 y] ?_ ?_ ?_ ?_ ?_ ?_); (exact (by intro v hv; simp only [List.mem_cons, List.not_mem_nil, or_false] at hv; subst hv; rfl)); (exact Nat.succ_pos _); (simp only [List.length_cons, List.length_nil]; omega); (exact rfl); (simp only [List.map_toArray, List.map_cons, List.map_nil, List.zipIdx_cons, List.zipIdx_nil]; exact rfl); simp only [Act.put, List.setIfInBounds_toArray, List.set_cons_zero, List.set_cons_succ]) | ((with_reducible refine wpList_append_hp ((HY.out).put 3 ([.int .i64 y])) (.tmp 34) (.tmp 39) 24 0 (v := v) (e := 3) (z := 1) (n := out.length) (xs := intRow out) ?_ 1 (b := (wr.heap.size)) (t' := 3) (ys := [.int .i64 y]) ?_ HUI.out elem_i 1 1 ?_ ?_ ?_ ?_ ?_ ?_); (exact rfl); (exact rfl); (exact rfl); (exact rfl); (exact rfl); (exact (one_i y)); (exact (by have := HO.out; first | omega | (simp only [List.length_append, List.length_cons, List.length_nil]; omega)))))
          intro v11 w11 hs hnil
          have HS12 : Hid (Hp w [.sl v11 3 1 (out.length + 1) ((intRow out) ++ ([.int .i64 y])), .ob (wr.heap.size) 3 ([.int .i64 y])] w11) := hs
          clear hs
          clear HY
          generalize wr.heap.size = B1 at *
          have HS13 : Hid (Hp w [.sl v11 3 1 (out.length + 1) ((intRow out) ++ ([.int .i64 y]))] w11) := HS12.out.pull [0] rfl (pull_nd HS12.out.nd [0] rfl (by decide))
          clear HS12
          have HS14 : Hid (Hp w [.sl v11 3 1 (out ++ [y]).length (intRow (out ++ [y]))] w11) := own_snoc HS13.out
          clear HS13
          go_wp2_with fail
          go_roundw
          case rel => exact ⟨_, k + 1, false, _, by omega, rfl, rfl, by go_num, by have := HO.out; simp only [List.length_append, List.length_cons, List.length_nil]; omega, by
            have h := HSt.out.low hlow
            rw [HT.out]
            exact h, HS14.out⟩
          case measure => simp [intOf]; omega
        · have hge : n ≤ y := by omega
          have hd : decide (n ≤ y) = true := decide_eq_true hge
          by_cases heq : y = n
          · have hxb : (y != n) = false := by simp [heq]
            go_wp2_with (first | ((with_reducible refine wpList_build_vals 24 1 elem_i HUI.out [.int .i64 n] ?_ ?_ ?_ ?_ ?_ ?_); (exact (by intro v hv; simp only [List.mem_cons, List.not_mem_nil, or_false] at hv; subst hv; rfl)); (exact Nat.succ_pos _); (simp only [List.length_cons, List.length_nil]; omega); (exact rfl); (simp only [List.map_toArray, List.map_cons, List.map_nil, List.zipIdx_cons, List.zipIdx_nil]; exact rfl); simp only [Act.put, List.setIfInBounds_toArray, List.set_cons_zero, List.set_cons_succ]) | ((with_reducible refine wpList_append_hp ((HY.out).put 3 ([.int .i64 n])) (.tmp 24) (.tmp 26) 24 0 (v := v) (e := 3) (z := 1) (n := out.length) (xs := intRow out) ?_ 1 (b := (wr.heap.size)) (t' := 3) (ys := [.int .i64 n]) ?_ HUI.out elem_i 1 1 ?_ ?_ ?_ ?_ ?_ ?_); (exact rfl); (exact rfl); (exact rfl); (exact rfl); (exact rfl); (exact (one_i n)); (exact (by have := HO.out; omega))))
            intro v11 w11 hs hnil
            have HS12 : Hid (Hp w [.sl v11 3 1 (out.length + 1) ((intRow out) ++ ([.int .i64 n])), .ob (wr.heap.size) 3 ([.int .i64 n])] w11) := hs
            clear hs
            clear HY
            generalize wr.heap.size = B1 at *
            have HS13 : Hid (Hp w [.sl v11 3 1 (out.length + 1) ((intRow out) ++ ([.int .i64 n]))] w11) := HS12.out.pull [0] rfl (pull_nd HS12.out.nd [0] rfl (by decide))
            clear HS12
            have HS14 : Hid (Hp w [.sl v11 3 1 (out ++ [n]).length (intRow (out ++ [n]))] w11) := own_snoc HS13.out
            clear HS13
            have hc2 : w11.cell? ⟨g, off + k, none⟩ = some (.int .i64 y) := HG.out _ HS14.out.old
            go_wp2_with fail
            go_roundw
            case rel => exact ⟨_, k + 1, true, _, by omega, rfl, rfl, by go_num, by have h := congrArg List.length HSt.out.1; rw [List.length_take] at h; simp only [List.length_append, List.length_cons, List.length_nil]; omega, by
              have h := HSt.out.here hge
              rw [HT.out]
              rw [if_pos (by exact heq), List.append_nil] at h
              exact h, HS14.out⟩
            case measure => simp [intOf]; omega
          · have hne := heq
            have hxb : (y != n) = true := by simp [heq]
            go_wp2_with (first | ((with_reducible refine wpList_build_vals 24 1 elem_i HUI.out [.int .i64 n] ?_ ?_ ?_ ?_ ?_ ?_); (exact (by intro v hv; simp only [List.mem_cons, List.not_mem_nil, or_false] at hv; subst hv; rfl)); (exact Nat.succ_pos _); (simp only [List.length_cons, List.length_nil]; omega); (exact rfl); (simp only [List.map_toArray, List.map_cons, List.map_nil, List.zipIdx_cons, List.zipIdx_nil]; exact rfl); simp only [Act.put, List.setIfInBounds_toArray, List.set_cons_zero, List.set_cons_succ]) | ((with_reducible refine wpList_append_hp ((HY.out).put 3 ([.int .i64 n])) (.tmp 24) (.tmp 26) 24 0 (v := v) (e := 3) (z := 1) (n := out.length) (xs := intRow out) ?_ 1 (b := (wr.heap.size)) (t' := 3) (ys := [.int .i64 n]) ?_ HUI.out elem_i 1 1 ?_ ?_ ?_ ?_ ?_ ?_); (exact rfl); (exact rfl); (exact rfl); (exact rfl); (exact rfl); (exact (one_i n)); (exact (by have := HO.out; omega))))
            intro v11 w11 hs hnil
            have HS12 : Hid (Hp w [.sl v11 3 1 (out.length + 1) ((intRow out) ++ ([.int .i64 n])), .ob (wr.heap.size) 3 ([.int .i64 n])] w11) := hs
            clear hs
            clear HY
            generalize wr.heap.size = B1 at *
            have HS13 : Hid (Hp w [.sl v11 3 1 (out.length + 1) ((intRow out) ++ ([.int .i64 n]))] w11) := HS12.out.pull [0] rfl (pull_nd HS12.out.nd [0] rfl (by decide))
            clear HS12
            have HS14 : Hid (Hp w [.sl v11 3 1 (out ++ [n]).length (intRow (out ++ [n]))] w11) := own_snoc HS13.out
            clear HS13
            have hc2 : w11.cell? ⟨g, off + k, none⟩ = some (.int .i64 y) := HG.out _ HS14.out.old
            go_wp2_with (first | ((with_reducible refine wpList_build_vals 24 1 elem_i HUI.out [.int .i64 y] ?_ ?_ ?_ ?_ ?_ ?_); (exact (by intro v hv; simp only [List.mem_cons, List.not_mem_nil, or_false] at hv; subst hv; rfl)); (exact Nat.succ_pos _); (simp only [List.length_cons, List.length_nil]; omega); (exact rfl); (simp only [List.map_toArray, List.map_cons, List.map_nil, List.zipIdx_cons, List.zipIdx_nil]; exact rfl); simp only [Act.put, List.setIfInBounds_toArray, List.set_cons_zero, List.set_cons_succ]) | ((with_reducible refine wpList_append_hp ((HS14.out).put 3 ([.int .i64 y])) (.tmp 34) (.tmp 39) 24 0 (v := v11) (e := 3) (z := 1) (n := (out ++ [n]).length) (xs := intRow (out ++ [n])) ?_ 1 (b := (w11.heap.size)) (t' := 3) (ys := [.int .i64 y]) ?_ HUI.out elem_i 1 1 ?_ ?_ ?_ ?_ ?_ ?_); (exact rfl); (exact rfl); (exact rfl); (exact rfl); (exact rfl); (exact (one_i y)); (exact (by have := HO.out; first | omega | (simp only [List.length_append, List.length_cons, List.length_nil]; omega)))))
            intro v12 w12 hs hnil
            have HS16 : Hid (Hp w [.sl v12 3 1 ((out ++ [n]).length + 1) ((intRow (out ++ [n])) ++ ([.int .i64 y])), .ob (w11.heap.size) 3 ([.int .i64 y])] w12) := hs
            clear hs
            clear HS14
            generalize w11.heap.size = B2 at *
            have HS17 : Hid (Hp w [.sl v12 3 1 ((out ++ [n]).length + 1) ((intRow (out ++ [n])) ++ ([.int .i64 y]))] w12) := HS16.out.pull [0] rfl (pull_nd HS16.out.nd [0] rfl (by decide))
            clear HS16
            have HS18 : Hid (Hp w [.sl v12 3 1 ((out ++ [n]) ++ [y]).length (intRow ((out ++ [n]) ++ [y]))] w12) := own_snoc HS17.out
            clear HS17
            go_wp2_with fail
            go_roundw
            case rel => exact ⟨_, k + 1, true, _, by omega, rfl, rfl, by go_num, by have h := congrArg List.length HSt.out.1; rw [List.length_take] at h; simp only [List.length_append, List.length_cons, List.length_nil]; omega, by
              have h := HSt.out.here hge
              rw [HT.out]
              rw [if_neg (by exact hne)] at h
              exact h, HS18.out⟩
            case measure => simp [intOf]; omega
    · obtain rfl : k = l.length := by omega
      rw [List.take_length] at HSt
      have HE := Lib.hid HSt.out.end
      cases dn
      case true =>
        have HE2 : Hid (withR n l = out) := HE.out
        clear HE
        go_wp2_with fail
        go_ret
        exact ⟨_, rfl, HY.out.old, by rw [HE2.out]; exact HY.out.own 0 rfl⟩
      case false =>
        have HE2 : Hid (withR n l = out ++ [n]) := HE.out
        clear HE
        go_wp2_with (first | ((with_reducible refine wpList_build_vals 24 1 elem_i HUI.out [.int .i64 n] ?_ ?_ ?_ ?_ ?_ ?_); (exact (by intro v hv; simp only [List.mem_cons, List.not_mem_nil, or_false] at hv; subst hv; rfl)); (exact Nat.succ_pos _); (simp only [List.length_cons, List.length_nil]; omega); (exact rfl); (simp only [List.map_toArray, List.map_cons, List.map_nil, List.zipIdx_cons, List.zipIdx_nil]; exact rfl); simp only [Act.put, List.setIfInBounds_toArray, List.set_cons_zero, List.set_cons_succ]) | ((with_reducible refine wpList_append_hp ((HY.out).put 3 ([.int .i64 n])) (.tmp 43) (.tmp 45) 24 0 (v := v) (e := 3) (z := 1) (n := out.length) (xs := intRow out) ?_ 1 (b := (wr.heap.size)) (t' := 3) (ys := [.int .i64 n]) ?_ HUI.out elem_i 1 1 ?_ ?_ ?_ ?_ ?_ ?_); (exact rfl); (exact rfl); (exact rfl); (exact rfl); (exact rfl); (exact (one_i n)); (exact (by have := HO.out; have := HL.out; omega))))
        intro v11 w11 hs hnil
        have HS12 : Hid (Hp w [.sl v11 3 1 (out.length + 1) ((intRow out) ++ ([.int .i64 n])), .ob (wr.heap.size) 3 ([.int .i64 n])] w11) := hs
        clear hs
        clear HY
        generalize wr.heap.size = B1 at *
        have HS13 : Hid (Hp w [.sl v11 3 1 (out.length + 1) ((intRow out) ++ ([.int .i64 n]))] w11) := HS12.out.pull [0] rfl (pull_nd HS12.out.nd [0] rfl (by decide))
        clear HS12
        have HF : Hid (Hp w [.sl v11 3 1 (out ++ [n]).length (intRow (out ++ [n]))] w11) := own_snoc HS13.out
        go_wp2_with fail
        go_ret
        exact ⟨_, rfl, HF.out.old, by rw [HE2.out]; exact HF.out.own 0 rfl⟩
end Go.Proofs.Ythcjkbhkidijoaa
/- where a number goes in an ascending list -/
namespace Go.Proofs.Ythcjkbhkidijoaa
open Go.RowKit
set_option maxRecDepth 20000
set_option linter.unusedSimpArgs false
set_option linter.unusedVariables false

theorem withR_skip {t : Int} : ∀ (a b : List Int), (∀ x ∈ a, x < t) → withR t (a ++ b) = a ++ withR t b
  | [], _, _ => rfl
  | x :: a, b, h => by
    have hx := h x (List.mem_cons_self ..)
    show (if t ≤ x then t :: withoutR (x :: (a ++ b)) t else x :: withR t (a ++ b)) = _
    rw [if_neg (by omega), withR_skip a b (fun y hy => h y (List.mem_cons_of_mem _ hy))]
    rfl
theorem without_id {t : Int} {b : List Int} (h : ∀ x ∈ b, x ≠ t) : withoutR b t = b := by
  unfold withoutR
  rw [List.filter_eq_self]
  intro x hx
  simp [h x hx]
theorem take_low {t : Int} {l : List Int} {i : Nat} (h : PosR t l i) : ∀ x ∈ l.take i, x < t := by
  intro x hx
  obtain ⟨j, hj, rfl⟩ := List.mem_take_iff_getElem.1 hx
  exact h.low j (by omega) (by omega)
theorem drop_high {t : Int} {l : List Int} {i : Nat} (h : PosR t l i) : ∀ x ∈ l.drop i, t ≤ x := by
  intro x hx
  obtain ⟨j, hj, rfl⟩ := List.getElem_of_mem hx
  rw [List.length_drop] at hj
  rw [List.getElem_drop]
  exact h.high (i + j) (by omega) (by omega)
theorem withR_found {t : Int} {l : List Int} {i : Nat} (h : PosR t l i) (hs : l.Pairwise (· < ·)) (hf : l[i]? = some t) : withR t l = l := by
  have hi := (List.getElem?_eq_some_iff.1 hf).1
  have ht := (List.getElem?_eq_some_iff.1 hf).2
  have e : l = l.take i ++ (t :: l.drop (i + 1)) := by
    conv => lhs; rw [← List.take_append_drop i l]
    rw [← List.getElem_cons_drop hi, ht]
  have h2 : ∀ x ∈ l.drop (i + 1), x ≠ t := by
    intro x hx
    obtain ⟨j, hj, rfl⟩ := List.getElem_of_mem hx
    rw [List.length_drop] at hj
    rw [List.getElem_drop]
    have := List.pairwise_iff_getElem.1 hs i (i + 1 + j) hi (by omega) (by omega)
    rw [ht] at this
    omega
  conv => lhs; rw [e]
  rw [withR_skip _ _ (take_low h)]
  conv => rhs; rw [e]
  congr 1
  unfold withR
  rw [if_pos (Int.le_refl _)]
  have : withoutR (t :: l.drop (i + 1)) t = l.drop (i + 1) := by
    rw [show withoutR (t :: l.drop (i + 1)) t = withoutR (l.drop (i + 1)) t from by unfold withoutR; simp]
    exact without_id h2
  rw [this]
theorem withR_insert {t : Int} {l : List Int} {i : Nat} (h : PosR t l i) (hs : l.Pairwise (· < ·)) (hf : ¬ l[i]? = some t) : withR t l = insI l i t := by
  have hne : ∀ x ∈ l.drop i, x ≠ t := by
    intro x hx
    obtain ⟨j, hj, rfl⟩ := List.getElem_of_mem hx
    rw [List.length_drop] at hj
    rw [List.getElem_drop]
    intro e
    rcases Nat.eq_zero_or_pos j with h0 | h0
    · subst h0
      exact hf (by rw [List.getElem?_eq_getElem (by omega)]; exact congrArg some e)
    · have h1 := List.pairwise_iff_getElem.1 hs i (i + j) (by omega) (by omega) (by omega)
      have h2 := h.high i (by omega) (Nat.le_refl _)
      omega
  unfold insI
  conv => lhs; rw [← List.take_append_drop i l]
  rw [withR_skip _ _ (take_low h)]
  congr 1
  have hh := drop_high h
  cases hd : l.drop i with
  | nil => rfl
  | cons x b =>
    rw [hd] at hne hh
    unfold withR
    rw [if_pos (hh x (List.mem_cons_self ..)), without_id hne]
end Go.Proofs.Ythcjkbhkidijoaa
/- the program's strike: a page becomes unreadable -/
namespace Go.Proofs.Ythcjkbhkidijoaa
open Go.RowKit
set_option maxRecDepth 20000
set_option linter.unusedSimpArgs false
set_option linter.unusedVariables false

set_option maxHeartbeats 8000000 in
theorem strike_unread {w0 W : World} {M : List Th} {b : Nat} {p u f : Value} {d : Dv} (x : Flt) (h : Hp w0 (DvTh b p u f d M) W) (hx : x.kind = 5) (hs : d.unread.Pairwise (· < ·)) (hl : d.unread.length ≤ 900) :
    Calls Try.prog 46 #[.pointer (some ⟨b, 0, none⟩), .agg (fltCells x).toArray] W fun e W' => e = .returned (.tuple #[]) ∧ ∃ u', Hp w0 (DvTh b p u' f (happenR d x) M) W' := by
  obtain ⟨kd, at_, pg, tg, by_, ms⟩ := x
  simp only at hx
  subst hx
  have HHap : Hid (happenR d ⟨5, at_, pg, tg, by_, ms⟩ = ⟨d.pages, d.writes, withR pg d.unread, d.dead, d.faults⟩) := rfl
  obtain ⟨a, c, rfl⟩ := own_slice (h.own 2 rfl)
  have HS0 : Hid (Hp w0 (.ob b 27 (dvCells p d (.slice a d.unread.length c) f) :: .sl p 9 1 d.pages.length (strRow d.pages) :: .sl (.slice a d.unread.length c) 3 1 d.unread.length (intRow d.unread) :: .ob W.heap.size 29 (fltCells ⟨5, at_, pg, tg, by_, ms⟩) :: M) (W.alloc (.cells #[.int .i64 5, .int .i64 at_, .int .i64 pg, .int .i64 tg, .int .i64 by_, .int .u8 ms] 29))) := h.ins [_, _, _] 29 _
  obtain ⟨R, hrd, hin, _⟩ := own_reads (HS0.out.own 2 rfl)
  obtain ⟨i, hpos⟩ := pos_exists pg d.unread hs
  obtain ⟨q, hq⟩ : ∃ q, decide (d.unread[i]? = some pg) = q := ⟨_, rfl⟩
  have hbin : ∀ n, Calls Try.prog 63 #[.slice a d.unread.length c, .int .i64 pg] ((W.alloc (.cells #[.int .i64 5, .int .i64 at_, .int .i64 pg, .int .i64 tg, .int .i64 by_, .int .u8 ms] 29)).drewN n) fun e w' => e = .returned (.tuple #[.int .i64 i, .bool q]) ∧ w' = (W.alloc (.cells #[.int .i64 5, .int .i64 at_, .int .i64 pg, .int .i64 tg, .int .i64 by_, .int .u8 ms] 29)).drewN n := fun n => by
    rw [← hq]
    exact binSearch_at pg d.unread _ R ((W.alloc (.cells #[.int .i64 5, .int .i64 at_, .int .i64 pg, .int .i64 tg, .int .i64 by_, .int .u8 ms] 29)).drewN n) hs hrd (fun r hr => hin r hr) (by omega) hpos
  have HBin := Lib.hid hbin
  have HPos := Lib.hid hpos
  have HQ := Lib.hid hq
  have b2 := HS0.out.at 0 rfl 2 rfl
  have HIns : Hid (∀ W1, Hp w0 (.ob b 27 (dvCells p d (.slice a d.unread.length c) f) :: .sl p 9 1 d.pages.length (strRow d.pages) :: .sl (.slice a d.unread.length c) 3 1 d.unread.length (intRow d.unread) :: .ob W.heap.size 29 (fltCells ⟨5, at_, pg, tg, by_, ms⟩) :: M) W1 → Calls Try.prog 64 #[.slice a d.unread.length c, .int .i64 i, .slice (some ⟨W1.heap.size, 0, none⟩) 1 1] (W1.alloc (.cells #[.int .i64 pg] 3)).drew fun e W' => ∃ a' c', e = .returned (.slice a' (insI d.unread i pg).length c') ∧ Hp w0 (.ob b 27 (dvCells p d (.slice a d.unread.length c) f) :: .sl p 9 1 d.pages.length (strRow d.pages) :: .sl (.slice a' (insI d.unread i pg).length c') 3 1 (insI d.unread i pg).length (intRow (insI d.unread i pg)) :: .ob W.heap.size 29 (fltCells ⟨5, at_, pg, tg, by_, ms⟩) :: M) W') := fun W1 h1 => by
    have h2 := (h1.ins [_, _, _, _] 3 [.int .i64 pg]).drew
    refine (insert_own d.unread pg i (.slice a d.unread.length c) w0.heap.size W1.heap.size _ hpos.le (h2.own 2 rfl) (h2.get 4 rfl) (fun e => h2.ne 2 4 rfl rfl (by decide) e rfl rfl) h2.old.size (by omega)).mono ?_
    rintro e W2 ⟨v', rfl, ho, hgr, hbl⟩
    obtain ⟨a', c', rfl⟩ := own_slice ho
    exact ⟨a', c', rfl, Hp.del [_, _, _, _] (h2.grown 2 rfl ho hgr hbl)⟩
  have HSt := Lib.hid hs
  have HLn := Lib.hid hl
  clear h hs hl hrd hin hbin hpos hq
  show Calls Try.prog 46 #[.pointer (some ⟨b, 0, none⟩), .agg #[.int .i64 5, .int .i64 at_, .int .i64 pg, .int .i64 tg, .int .i64 by_, .int .u8 ms]] W _
  go_enter Try.func46, Try.ntmps46
  go_wp2_with fail
  go_quiet ((go_at_call 63; exact Calls.quiet_of_same (HBin.out _)))
  have HS3 := Lib.hid (HS0.out.drewN nq)
  clear HS0 HBin b2
  generalize (W.alloc (.cells #[.int .i64 5, .int .i64 at_, .int .i64 pg, .int .i64 tg, .int .i64 by_, .int .u8 ms] 29)).drewN nq = w3 at *
  generalize W.heap.size = bx at *
  cases q
  · have HW : Hid (withR pg d.unread = insI d.unread i pg) := withR_insert HPos.out HSt.out (of_decide_eq_false HQ.out)
    have b2 := HS3.out.at 0 rfl 2 rfl
    have e2 := HS3.out.at 3 rfl 2 rfl
    have HS4 := Lib.hid ((HS3.out).ins [_, _, _, _] 3 [.int .i64 pg])
    have b2' := HS4.out.at 0 rfl 2 rfl
    have e2' := HS4.out.at 3 rfl 2 rfl
    have hcall := HIns.out _ HS3.out
    clear HIns HPos
    go_wp2_with fail
    go_region_law (go_simp; go_wp2_with (go_at_call 64; refine hcall.mono ?_; rintro e w5 ⟨a', c', rfl, h5⟩; have b5 := h5.at 0 rfl 2 rfl; have f5 := h5.frozen 0 rfl 2))
    all_goals (
      have H6 := Lib.hid (h5.set 0 rfl 2 (.slice a' (insI d.unread i pg).length c'))
      clear h5 b5 f5
      go_wp2_with fail
      refine bodyPost_end (v := .tuple #[]) (by simp [results, Try.results46, go_sem]) rfl ⟨rfl, .slice a' (insI d.unread i pg).length c', ?_⟩
      rw [HHap.out, HW.out]
      exact Hp.del [_, _, _] H6.out)
  · have HW : Hid (withR pg d.unread = d.unread) := withR_found HPos.out HSt.out (of_decide_eq_true HQ.out)
    go_wp2_with fail
    refine bodyPost_end (v := .tuple #[]) (by simp [results, Try.results46, go_sem]) rfl ⟨rfl, .slice a d.unread.length c, ?_⟩
    rw [HHap.out, HW.out]
    exact Hp.del [_, _, _] HS3.out
/-- what the program's strike asks of a fault -/
structure StrOk (d : Dv) (x : Flt) : Prop where
  pages : d.pages.length ≤ 1000
  all : ∀ s ∈ d.pages, s.size = 256
  asc : d.unread.Pairwise (· < ·)
  few : d.unread.length ≤ 900
  page : 0 ≤ x.page ∧ x.page < (d.pages.length : Int)
  byte : 0 ≤ x.byte ∧ x.byte < 256
  mask : 0 ≤ x.mask ∧ x.mask < 256
theorem strike_any {w0 W : World} {M : List Th} {b : Nat} {p u f : Value} {d : Dv} (x : Flt) (h : Hp w0 (DvTh b p u f d M) W) (ok : StrOk d x) :
    Calls Try.prog 46 #[.pointer (some ⟨b, 0, none⟩), .agg (fltCells x).toArray] W fun e W' => e = .returned (.tuple #[]) ∧ ∃ u', Hp w0 (DvTh b p u' f (happenR d x) M) W' := by
  by_cases h4 : x.kind = 4
  · obtain ⟨k, hk⟩ := Int.eq_ofNat_of_zero_le ok.page.1
    obtain ⟨j, hj⟩ := Int.eq_ofNat_of_zero_le ok.byte.1
    have hm : x.mask = ((UInt8.ofNat x.mask.toNat).toNat : Int) := by
      have := ok.mask
      rw [UInt8.toNat_ofNat']
      omega
    exact strike_rot x h h4 k hk (by have := ok.page.2; omega) ok.all j hj (by have := ok.byte.2; omega) _ hm ok.pages
  by_cases h5 : x.kind = 5
  · exact strike_unread x h h5 ok.asc ok.few
  by_cases h6 : x.kind = 6
  · exact strike_dead x h h6
  · exact strike_none x h h4 h5 h6
end Go.Proofs.Ythcjkbhkidijoaa
