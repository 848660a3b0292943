/- the walks of Diff and what it calls -/
import Derived.Test.YtbadfcnkpeohfaaDfVal
namespace Go.Proofs.Ytbadfcnkpeohfaa
open Go.RowKit

set_option maxHeartbeats 4000000 in
theorem validCells_any (l : List Cl) (w : World) (hl : l.length = 16) (hs : ∀ c ∈ l, c.data.size ≤ maxLen) :
    Calls Try.prog 33 #[.agg (rowCells l).toArray] w fun e w' => e = .returned (.bool (l.all cellOkB)) ∧ Below w.heap.size w w' := by
  have HLl := Lib.hid hl
  have HS := Lib.hid hs
  clear hl hs
  obtain ⟨fs, hu⟩ := under_ch
  have HU := Lib.hid hu
  clear hu
  obtain ⟨fp, hu⟩ := under_page
  have HUP := Lib.hid hu
  clear hu
  obtain ⟨fc, hu⟩ := under_cell
  have HUC := Lib.hid hu
  clear hu
  have HUR : Hid (Try.prog.underlying 25 = some (.array 16 24)) := under_cells
  have h1 := (Hp.start w).put 25 (rowCells l)
  simp only [List.nil_append] at h1
  have HB0 := Lib.hid h1
  clear h1
  go_enter Try.func33, Try.ntmps33
  go_upto_region 1 with (fail)
  have HS1 : Hid (Hp w [.ob (w.heap.size) 25 (rowCells l)] (w.alloc (.cells (rowCells l).toArray 25))) := HB0.out
  clear HB0
  generalize (w.alloc (.cells (rowCells l).toArray 25)) = w2 at *
  go_wp2_with (first | ((with_reducible refine wpList_load_ob 25 (.tmp 1) (w.heap.size) (rowCells l) 25 HUR.out ?_ ?_ ?_ ?_ ?_); (exact rfl); (exact (HS1.out).get 0 rfl); (exact rfl); (exact (info_row HLl.out)); simp only [Act.put, List.setIfInBounds_toArray, List.set_cons_zero, List.set_cons_succ]))
  go_loopw [6] (fun i wr => ∃ k : Nat, k ≤ 16 ∧ i = .int .i64 k ∧ (l.take k).all cellOkB = true ∧ Hp w [.ob (w.heap.size) 25 (rowCells l)] wr) (fun i _ => 16 - (intOf i).toNat)
  case atStart => exact ⟨0, by omega, rfl, rfl, HS1.out⟩
  case round =>
    obtain ⟨k, hk, rfl, hall, hs⟩ := hrel
    have HAll := Lib.hid hall
    clear hall HS1
    by_cases hlt : k < 16
    · have HY := Lib.hid hs
      clear hs
      have hki : (k : Int) < 16 := by omega
      have hkl : k < l.length := by rw [HLl.out]; exact hlt
      obtain ⟨c, hc⟩ : ∃ c, l[k]? = some c := ⟨_, List.getElem?_eq_getElem hkl⟩
      have HC := Lib.hid hc
      have HCm : Hid (c ∈ l) := List.mem_of_getElem? hc
      have HT : Hid (l.take (k + 1) = l.take k ++ [c]) := by show _ = _; rw [List.take_add_one, hc]; rfl
      have HK : Hid (k < 16) := hlt
      clear hc hkl
      go_wp2_with (first | ((with_reducible refine wpList_index_row (.tmp 5) (.tmp 6) l k c HK.out HC.out ?_ ?_ ?_); (exact rfl); (exact rfl); simp only [Act.put, List.setIfInBounds_toArray, List.set_cons_zero, List.set_cons_succ]) | ((with_reducible refine wpList_alloc_ob 24 (clCells emptyCl) ?_ ?_); (exact alloc_cl); simp only [Act.put, List.setIfInBounds_toArray, List.set_cons_zero, List.set_cons_succ]) | ((with_reducible refine wpList_store_ob 24 (.tmp 4) (wr.heap.size) (clCells c) (clCells emptyCl) 24 ?_ ?_ ?_ ?_ ?_ ?_ ?_); (exact rfl); (exact rfl); (exact ((HY.out).put 24 (clCells emptyCl)).get 1 rfl); (exact info_cl); (exact rfl); (exact (oneCell_cl _)); skip) | ((with_reducible refine wpList_load_ob 24 (.tmp 4) (wr.heap.size) (clCells c) 24 HUC.out ?_ ?_ ?_ ?_ ?_); (exact rfl); (exact (((HY.out).put 24 (clCells emptyCl)).row 1 rfl (clCells c)).get 1 rfl); (exact rfl); (exact info_cl); simp only [Act.put, List.setIfInBounds_toArray, List.set_cons_zero, List.set_cons_succ]))
      refine (validCell_cl c _ (HS.out c HCm.out)).mono ?_
      rintro e w3 ⟨rfl, hb⟩
      have HS2 : Hid (Hp w [.ob (w.heap.size) 25 (rowCells l), .ob (wr.heap.size) 24 (clCells c)] w3) := (((HY.out).put 24 (clCells emptyCl)).row 1 rfl (clCells c)).calls hb
      clear hb
      clear HY
      generalize wr.heap.size = B1 at *
      have HS3 : Hid (Hp w [.ob (w.heap.size) 25 (rowCells l)] w3) := HS2.out.pull [0] rfl (pull_nd HS2.out.nd [0] rfl (by decide))
      clear HS2
      cases hv : cellOkB c
      · have HX : Hid (l.all cellOkB = false) := all_false HCm.out hv
        clear hv
        go_wp2_with fail
        go_ret
        exact ⟨ret_bool HX.out.symm, HS3.out.old⟩
      · have HX : Hid ((l.take (k + 1)).all cellOkB = true) := by
          show _ = _
          rw [HT.out, List.all_append, HAll.out]
          simp [hv]
        clear hv
        go_wp2_with fail
        go_roundw
        case rel => exact ⟨k + 1, by omega, by go_num, HX.out, HS3.out⟩
        case measure => simp [intOf]; omega
    · obtain rfl : k = 16 := by omega
      have HX : Hid (l.all cellOkB = true) := by
        show _ = _
        have := HAll.out
        rw [List.take_of_length_le (by rw [HLl.out]; omega)] at this
        exact this
      have HO := Lib.hid hs.old
      clear hs
      go_wp2_with fail
      go_ret
      exact ⟨ret_bool HX.out.symm, HO.out⟩
def DiffPost (p q : Pg) (w : World) (e : Ending) (w' : World) : Prop :=
  ∃ v : Value, e = .returned (.tuple #[v, .int .i64 (diffR p q).2]) ∧ Below w.heap.size w w' ∧ w'.ownsRow w.heap.size 29 6 v (diffR p q).1.length ((diffR p q).1.flatMap chCells)
theorem diffPost_nil {p q : Pg} {n : Int} {w w' : World} (h : diffR p q = ([], n)) (hb : Below w.heap.size w w') : DiffPost p q w (.returned (.tuple #[.slice none 0 0, .int .i64 n])) w' := by
  refine ⟨_, by rw [h], hb, ?_⟩
  rw [h]
  exact ⟨by simp, .inl ⟨rfl, rfl⟩⟩
theorem diffPost_mk {p q : Pg} {l : List Chg} {n : Int} {v : Value} {w w' : World} (h : diffR p q = (l, n)) (hb : Below w.heap.size w w') (ho : w'.ownsRow w.heap.size 29 6 v l.length (l.flatMap chCells)) : DiffPost p q w (.returned (.tuple #[v, .int .i64 n])) w' := by
  refine ⟨v, by rw [h], hb, ?_⟩
  rw [h]
  exact ho
theorem sameV_false {α : Type} {a b : α} (h : a ≠ b) : sameV a b = false := by
  rw [Bool.eq_false_iff]
  intro e
  exact h (sameV_iff.1 e)
set_option maxHeartbeats 8000000 in
theorem diff_any (p q : Pg) (w : World) (hp : Good p) (hq : Good q) :
    Calls Try.prog 24 #[.agg (pgCells p).toArray, .agg (pgCells q).toArray] w (DiffPost p q w) := by
  have HPl := Lib.hid hp.len
  have HQl := Lib.hid hq.len
  have HPg := Lib.hid hp
  have HQg := Lib.hid hq
  clear hp hq
  obtain ⟨fs, hu⟩ := under_ch
  have HU := Lib.hid hu
  clear hu
  obtain ⟨fp, hu⟩ := under_page
  have HUP := Lib.hid hu
  clear hu
  obtain ⟨fc, hu⟩ := under_cell
  have HUC := Lib.hid hu
  clear hu
  have HUS : Hid (Try.prog.underlying 51 = some (.slice 29)) := Try.underlying51
  have HUR : Hid (Try.prog.underlying 25 = some (.array 16 24)) := under_cells
  have h1 := ((Hp.start w).put 27 (pgCells p)).put 27 (pgCells q)
  simp only [List.nil_append, List.cons_append, World.size_alloc] at h1
  have HB0 := Lib.hid h1
  clear h1
  go_enter Try.func24, Try.ntmps24
  go_upto_region 1 with (fail)
  have HS1 : Hid (Hp w [.ob (w.heap.size) 27 (pgCells p), .ob (w.heap.size + 1) 27 (pgCells q)] ((w.alloc (.cells (pgCells p).toArray 27)).alloc (.cells (pgCells q).toArray 27))) := HB0.out
  clear HB0
  generalize ((w.alloc (.cells (pgCells p).toArray 27)).alloc (.cells (pgCells q).toArray 27)) = w2 at *
  have c0 : w2.cell? ⟨w.heap.size, 0, none⟩ = some (.int .i64 p.id) := HS1.out.at 0 rfl 0 rfl
  have d0 : w2.cell? ⟨w.heap.size + 1, 0, none⟩ = some (.int .i64 q.id) := HS1.out.at 1 rfl 0 rfl
  have HO := Lib.hid HS1.out.old
  by_cases hid : p.id = q.id
  case neg =>
    have HX : Hid (diffR p q = ([], 6)) := by show _ = _; unfold diffR; rw [if_pos (sameV_false hid)]
    have hne : (p.id != q.id) = true := by simp; exact hid
    clear hid
    go_wp2_with fail
    go_ret2
    exact diffPost_nil HX.out HO.out
  have HI : Hid (¬ sameV p.id q.id = false) := by show ¬ _; rw [hid, sameV_self]; decide
  have hne : (p.id != q.id) = false := by simp; exact hid
  clear hid
  cases hpg : (decide (0 ≤ p.id) && decide (p.id < 64))
  case false =>
    have HX : Hid (diffR p q = ([], 1)) := by show _ = _; unfold diffR; rw [if_neg HI.out, if_pos hpg]
    go_wp2_with (go_at_call 31; refine (validPage_any _ _).mono ?_; rintro e w' ⟨rfl, rfl⟩; rw [hpg])
    go_ret2
    exact diffPost_nil HX.out HO.out
  have HPgI : Hid (¬ (decide (0 ≤ p.id) && decide (p.id < 64)) = false) := by show ¬ _; rw [hpg]; decide
  go_wp2_with (first | (go_at_call 31; refine (validPage_any _ _).mono ?_; rintro e w' ⟨rfl, rfl⟩; rw [hpg]) | ((with_reducible refine wpList_load_at 25 (.tmp 22) (w.heap.size) (2) (rowCells p.cells) HUR.out ?_ ?_ ?_ ?_ ?_); (exact rfl); (exact (HS1.out).mid 0 rfl (2) _ (page_row p)); (exact rfl); (exact (info_row HPl.out)); simp only [Act.put, List.setIfInBounds_toArray, List.set_cons_zero, List.set_cons_succ]))
  refine (validCells_any p.cells _ HPl.out HPg.out.data).mono ?_
  rintro e w3 ⟨rfl, hb⟩
  have HS2 : Hid (Hp w [.ob (w.heap.size) 27 (pgCells p), .ob (w.heap.size + 1) 27 (pgCells q)] w3) := (HS1.out).calls hb
  clear hb
  clear HS1
  clear hpg c0 d0 HO
  have HO := Lib.hid HS2.out.old
  cases hca : p.cells.all cellOkB
  case false =>
    have HX : Hid (diffR p q = ([], 22)) := by show _ = _; unfold diffR; rw [if_neg HI.out, if_neg HPgI.out, if_pos (by rw [hca]; rfl)]
    clear hca
    go_wp2_with fail
    go_ret2
    exact diffPost_nil HX.out HO.out
  go_wp2_with (first | ((with_reducible refine wpList_load_at_w 25 (.tmp 27) (w.heap.size + 1) (2) (rowCells q.cells) HUR.out ?_ ?_ ?_ ?_ ?_ ?_); (exact rfl); (exact rfl); (exact (HS2.out).mid 1 rfl (2) _ (page_row q)); (exact rfl); (exact (info_row HQl.out)); simp only [Act.put, List.setIfInBounds_toArray, List.set_cons_zero, List.set_cons_succ]))
  refine (validCells_any q.cells _ HQl.out HQg.out.data).mono ?_
  rintro e w4 ⟨rfl, hb⟩
  have HS3 : Hid (Hp w [.ob (w.heap.size) 27 (pgCells p), .ob (w.heap.size + 1) 27 (pgCells q)] w4) := (HS2.out).calls hb
  clear hb
  clear HS2
  clear HO
  have HO := Lib.hid HS3.out.old
  cases hcb : q.cells.all cellOkB
  case false =>
    have HX : Hid (diffR p q = ([], 22)) := by show _ = _; unfold diffR; rw [if_neg HI.out, if_neg HPgI.out, if_pos (by rw [hca, hcb]; rfl)]
    clear hca hcb
    go_wp2_with fail
    go_ret2
    exact diffPost_nil HX.out HO.out
  have HX : Hid (diffR p q = (diffL p.id 0 p.cells q.cells, 0)) := by show _ = _; unfold diffR; rw [if_neg HI.out, if_neg HPgI.out, if_neg (by rw [hca, hcb]; decide)]
  clear hca hcb
  have heq : ∀ W, Sem.run Try.prog (binOp .eql 25 (.agg (rowCells p.cells).toArray) (.agg (rowCells q.cells).toArray)) W = .ok (.bool (sameV p.cells q.cells)) W := fun W => run_eql (equal_cells p.cells q.cells HPl.out HQl.out HPg.out.data HQg.out.data) W
  cases hsv : sameV p.cells q.cells
  all_goals rw [hsv] at heq
  case true =>
    have HX0 : Hid (diffR p q = ([], 0)) := by show _ = _; rw [HX.out, sameV_iff.1 hsv, diffL_same]
    clear hsv
    go_wp2_with (first | ((with_reducible refine wpList_load_at 25 (.tmp 33) (w.heap.size) (2) (rowCells p.cells) HUR.out ?_ ?_ ?_ ?_ ?_); (exact rfl); (exact (HS3.out).mid 0 rfl (2) _ (page_row p)); (exact rfl); (exact (info_row HPl.out)); simp only [Act.put, List.setIfInBounds_toArray, List.set_cons_zero, List.set_cons_succ]) | ((with_reducible refine wpList_load_at 25 (.tmp 35) (w.heap.size + 1) (2) (rowCells q.cells) HUR.out ?_ ?_ ?_ ?_ ?_); (exact rfl); (exact (HS3.out).mid 1 rfl (2) _ (page_row q)); (exact rfl); (exact (info_row HQl.out)); simp only [Act.put, List.setIfInBounds_toArray, List.set_cons_zero, List.set_cons_succ]))
    go_ret2
    exact diffPost_nil HX0.out HO.out
  clear hsv
  go_wp2_with (first | ((with_reducible refine wpList_load_at 25 (.tmp 33) (w.heap.size) (2) (rowCells p.cells) HUR.out ?_ ?_ ?_ ?_ ?_); (exact rfl); (exact (HS3.out).mid 0 rfl (2) _ (page_row p)); (exact rfl); (exact (info_row HPl.out)); simp only [Act.put, List.setIfInBounds_toArray, List.set_cons_zero, List.set_cons_succ]) | ((with_reducible refine wpList_load_at 25 (.tmp 35) (w.heap.size + 1) (2) (rowCells q.cells) HUR.out ?_ ?_ ?_ ?_ ?_); (exact rfl); (exact (HS3.out).mid 1 rfl (2) _ (page_row q)); (exact rfl); (exact (info_row HQl.out)); simp only [Act.put, List.setIfInBounds_toArray, List.set_cons_zero, List.set_cons_succ]) | ((with_reducible refine wpList_load_at 25 (.tmp 38) (w.heap.size) (2) (rowCells p.cells) HUR.out ?_ ?_ ?_ ?_ ?_); (exact rfl); (exact (HS3.out).mid 0 rfl (2) _ (page_row p)); (exact rfl); (exact (info_row HPl.out)); simp only [Act.put, List.setIfInBounds_toArray, List.set_cons_zero, List.set_cons_succ]))
  have HZ : Hid (Hp w [.ob (w.heap.size) 27 (pgCells p), .ob (w.heap.size + 1) 27 (pgCells q), .sl ((.slice none 0 0)) 29 6 ((diffL p.id 0 (p.cells.take 0) (q.cells.take 0)).length) ((diffL p.id 0 (p.cells.take 0) (q.cells.take 0)).flatMap chCells)] w4) := HS3.out.nil 29 6
  clear HS3 HO
  go_loopw [6, 40] (fun sv i wr => ∃ (v : Value) (k : Nat), v = sv ∧ k ≤ 16 ∧ i = .int .i64 k ∧ Hp w [.ob (w.heap.size) 27 (pgCells p), .ob (w.heap.size + 1) 27 (pgCells q), .sl v 29 6 ((diffL p.id 0 (p.cells.take k) (q.cells.take k)).length) ((diffL p.id 0 (p.cells.take k) (q.cells.take k)).flatMap chCells)] wr) (fun _ i _ => 16 - (intOf i).toNat)
  case atStart => exact ⟨_, 0, rfl, by omega, rfl, HZ.out⟩
  case round =>
    obtain ⟨v, k, hv, hk, rfl, hs⟩ := hrel
    subst hv
    clear HZ
    by_cases hlt : k < 16
    · have HY := Lib.hid hs
      clear hs
      have hki : (k : Int) < 16 := by omega
      have hk0 : (0 : Int) ≤ (k : Int) := by omega
      have hkp : k < p.cells.length := by rw [HPl.out]; exact hlt
      have hkq : k < q.cells.length := by rw [HQl.out]; exact hlt
      obtain ⟨x, hx⟩ : ∃ c, p.cells[k]? = some c := ⟨_, List.getElem?_eq_getElem hkp⟩
      obtain ⟨y, hy⟩ : ∃ c, q.cells[k]? = some c := ⟨_, List.getElem?_eq_getElem hkq⟩
      have HXc := Lib.hid hx
      have HYc := Lib.hid hy
      have HK : Hid (k < 16) := hlt
      have HKp := Lib.hid hkp
      have HLen : Hid (p.cells.length = q.cells.length) := HPl.out.trans HQl.out.symm
      have hnx : ∀ W, Sem.run Try.prog (binOp .neq 24 (.agg (clCells x).toArray) (.agg (clCells y).toArray)) W = .ok (.bool (!sameV x y)) W := fun W => run_neq (equal_cl x y (HPg.out.data x (List.mem_of_getElem? hx)) (HQg.out.data y (List.mem_of_getElem? hy))) W
      have HM : Hid (∀ j u, (clCells y)[j]? = some u → (pgCells q)[2 + k * 2 + j]? = some u) := pg_mid q k hy
      have HLb : Hid ((diffL p.id 0 (p.cells.take k) (q.cells.take k)).length ≤ 16) := by
        show _ ≤ _
        have := diffL_len p.id 0 (p.cells.take k) (q.cells.take k)
        rw [List.length_take] at this
        omega
      clear hx hy hkp hkq
      cases hxy : sameV x y
      all_goals rw [hxy] at hnx
      case true =>
        have HD : Hid (diffL p.id 0 (p.cells.take (k + 1)) (q.cells.take (k + 1)) = diffL p.id 0 (p.cells.take k) (q.cells.take k)) := by show _ = _; rw [diffL_succ p.id HLen.out k HKp.out HXc.out HYc.out, if_pos hxy, List.append_nil]
        clear hxy
        go_upto_region 13 with (first | ((with_reducible refine wpList_index_row (.tmp 39) (.tmp 40) p.cells k x HK.out HXc.out ?_ ?_ ?_); (exact rfl); (exact rfl); simp only [Act.put, List.setIfInBounds_toArray, List.set_cons_zero, List.set_cons_succ]) | ((with_reducible refine wpList_alloc_ob 24 (clCells emptyCl) ?_ ?_); (exact alloc_cl); simp only [Act.put, List.setIfInBounds_toArray, List.set_cons_zero, List.set_cons_succ]) | ((with_reducible refine wpList_store_ob 24 (.tmp 8) (wr.heap.size) (clCells x) (clCells emptyCl) 24 ?_ ?_ ?_ ?_ ?_ ?_ ?_); (exact rfl); (exact rfl); (exact ((HY.out).put 24 (clCells emptyCl)).get 3 rfl); (exact info_cl); (exact rfl); (exact (oneCell_cl _)); skip))
        have HS4 : Hid (Hp w [.ob (w.heap.size) 27 (pgCells p), .ob (w.heap.size + 1) 27 (pgCells q), .sl v 29 6 ((diffL p.id 0 (p.cells.take k) (q.cells.take k)).length) ((diffL p.id 0 (p.cells.take k) (q.cells.take k)).flatMap chCells), .ob (wr.heap.size) 24 (clCells x)] ((wr.alloc (.cells (clCells emptyCl).toArray 24)).setRow (wr.heap.size) (clCells x).toArray)) := ((HY.out).put 24 (clCells emptyCl)).row 3 rfl (clCells x)
        clear HY
        generalize ((wr.alloc (.cells (clCells emptyCl).toArray 24)).setRow (wr.heap.size) (clCells x).toArray) = w5 at *
        generalize wr.heap.size = B1 at *
        go_upto_region 14 with (first | ((with_reducible refine wpList_load_at 24 (.tmp 46) (w.heap.size + 1) ((2 + k * 2)) (clCells y) HUC.out ?_ ?_ ?_ ?_ ?_); (exact rfl); (exact (HS4.out).mid 1 rfl ((2 + k * 2)) _ (HM.out)); (exact rfl); (exact info_cl); simp only [Act.put, List.setIfInBounds_toArray, List.set_cons_zero, List.set_cons_succ]) | ((with_reducible refine wpList_alloc_ob 24 (clCells emptyCl) ?_ ?_); (exact alloc_cl); simp only [Act.put, List.setIfInBounds_toArray, List.set_cons_zero, List.set_cons_succ]) | ((with_reducible refine wpList_store_ob 24 (.tmp 9) (w5.heap.size) (clCells y) (clCells emptyCl) 24 ?_ ?_ ?_ ?_ ?_ ?_ ?_); (exact rfl); (exact rfl); (exact ((HS4.out).put 24 (clCells emptyCl)).get 4 rfl); (exact info_cl); (exact rfl); (exact (oneCell_cl _)); skip))
        have HS5 : Hid (Hp w [.ob (w.heap.size) 27 (pgCells p), .ob (w.heap.size + 1) 27 (pgCells q), .sl v 29 6 ((diffL p.id 0 (p.cells.take k) (q.cells.take k)).length) ((diffL p.id 0 (p.cells.take k) (q.cells.take k)).flatMap chCells), .ob B1 24 (clCells x), .ob (w5.heap.size) 24 (clCells y)] ((w5.alloc (.cells (clCells emptyCl).toArray 24)).setRow (w5.heap.size) (clCells y).toArray)) := ((HS4.out).put 24 (clCells emptyCl)).row 4 rfl (clCells y)
        clear HS4
        generalize ((w5.alloc (.cells (clCells emptyCl).toArray 24)).setRow (w5.heap.size) (clCells y).toArray) = w6 at *
        generalize w5.heap.size = B2 at *
        go_wp2_with (first | ((with_reducible refine wpList_load_ob 24 (.tmp 8) B1 (clCells x) 24 HUC.out ?_ ?_ ?_ ?_ ?_); (exact rfl); (exact (HS5.out).get 3 rfl); (exact rfl); (exact info_cl); simp only [Act.put, List.setIfInBounds_toArray, List.set_cons_zero, List.set_cons_succ]) | ((with_reducible refine wpList_load_ob 24 (.tmp 9) B2 (clCells y) 24 HUC.out ?_ ?_ ?_ ?_ ?_); (exact rfl); (exact (HS5.out).get 4 rfl); (exact rfl); (exact info_cl); simp only [Act.put, List.setIfInBounds_toArray, List.set_cons_zero, List.set_cons_succ]))
        have HS6 : Hid (Hp w [.ob (w.heap.size) 27 (pgCells p), .ob (w.heap.size + 1) 27 (pgCells q), .sl v 29 6 ((diffL p.id 0 (p.cells.take k) (q.cells.take k)).length) ((diffL p.id 0 (p.cells.take k) (q.cells.take k)).flatMap chCells)] w6) := HS5.out.pull [0, 1, 2] rfl (pull_nd HS5.out.nd [0, 1, 2] rfl (by decide))
        clear HS5
        have HZ : Hid (Hp w [.ob (w.heap.size) 27 (pgCells p), .ob (w.heap.size + 1) 27 (pgCells q), .sl v 29 6 ((diffL p.id 0 (p.cells.take (k + 1)) (q.cells.take (k + 1))).length) ((diffL p.id 0 (p.cells.take (k + 1)) (q.cells.take (k + 1))).flatMap chCells)] w6) := by show Hp _ _ _; rw [HD.out]; exact HS6.out
        go_roundw
        case rel => exact ⟨_, k + 1, rfl, by omega, by go_num, HZ.out⟩
        case measure => simp [intOf]; omega
      case false =>
        have HD := Lib.hid (diffL_flat p.id HLen.out k HKp.out HXc.out HYc.out hxy)
        clear hxy
        go_upto_region 13 with (first | ((with_reducible refine wpList_index_row (.tmp 39) (.tmp 40) p.cells k x HK.out HXc.out ?_ ?_ ?_); (exact rfl); (exact rfl); simp only [Act.put, List.setIfInBounds_toArray, List.set_cons_zero, List.set_cons_succ]) | ((with_reducible refine wpList_alloc_ob 24 (clCells emptyCl) ?_ ?_); (exact alloc_cl); simp only [Act.put, List.setIfInBounds_toArray, List.set_cons_zero, List.set_cons_succ]) | ((with_reducible refine wpList_store_ob 24 (.tmp 8) (wr.heap.size) (clCells x) (clCells emptyCl) 24 ?_ ?_ ?_ ?_ ?_ ?_ ?_); (exact rfl); (exact rfl); (exact ((HY.out).put 24 (clCells emptyCl)).get 3 rfl); (exact info_cl); (exact rfl); (exact (oneCell_cl _)); skip))
        have HS4 : Hid (Hp w [.ob (w.heap.size) 27 (pgCells p), .ob (w.heap.size + 1) 27 (pgCells q), .sl v 29 6 ((diffL p.id 0 (p.cells.take k) (q.cells.take k)).length) ((diffL p.id 0 (p.cells.take k) (q.cells.take k)).flatMap chCells), .ob (wr.heap.size) 24 (clCells x)] ((wr.alloc (.cells (clCells emptyCl).toArray 24)).setRow (wr.heap.size) (clCells x).toArray)) := ((HY.out).put 24 (clCells emptyCl)).row 3 rfl (clCells x)
        clear HY
        generalize ((wr.alloc (.cells (clCells emptyCl).toArray 24)).setRow (wr.heap.size) (clCells x).toArray) = w5 at *
        generalize wr.heap.size = B1 at *
        go_upto_region 14 with (first | ((with_reducible refine wpList_load_at 24 (.tmp 46) (w.heap.size + 1) ((2 + k * 2)) (clCells y) HUC.out ?_ ?_ ?_ ?_ ?_); (exact rfl); (exact (HS4.out).mid 1 rfl ((2 + k * 2)) _ (HM.out)); (exact rfl); (exact info_cl); simp only [Act.put, List.setIfInBounds_toArray, List.set_cons_zero, List.set_cons_succ]) | ((with_reducible refine wpList_alloc_ob 24 (clCells emptyCl) ?_ ?_); (exact alloc_cl); simp only [Act.put, List.setIfInBounds_toArray, List.set_cons_zero, List.set_cons_succ]) | ((with_reducible refine wpList_store_ob 24 (.tmp 9) (w5.heap.size) (clCells y) (clCells emptyCl) 24 ?_ ?_ ?_ ?_ ?_ ?_ ?_); (exact rfl); (exact rfl); (exact ((HS4.out).put 24 (clCells emptyCl)).get 4 rfl); (exact info_cl); (exact rfl); (exact (oneCell_cl _)); skip))
        have HS5 : Hid (Hp w [.ob (w.heap.size) 27 (pgCells p), .ob (w.heap.size + 1) 27 (pgCells q), .sl v 29 6 ((diffL p.id 0 (p.cells.take k) (q.cells.take k)).length) ((diffL p.id 0 (p.cells.take k) (q.cells.take k)).flatMap chCells), .ob B1 24 (clCells x), .ob (w5.heap.size) 24 (clCells y)] ((w5.alloc (.cells (clCells emptyCl).toArray 24)).setRow (w5.heap.size) (clCells y).toArray)) := ((HS4.out).put 24 (clCells emptyCl)).row 4 rfl (clCells y)
        clear HS4
        generalize ((w5.alloc (.cells (clCells emptyCl).toArray 24)).setRow (w5.heap.size) (clCells y).toArray) = w6 at *
        generalize w5.heap.size = B2 at *
        go_upto_region 15 with (first | ((with_reducible refine wpList_load_ob 24 (.tmp 8) B1 (clCells x) 24 HUC.out ?_ ?_ ?_ ?_ ?_); (exact rfl); (exact (HS5.out).get 3 rfl); (exact rfl); (exact info_cl); simp only [Act.put, List.setIfInBounds_toArray, List.set_cons_zero, List.set_cons_succ]) | ((with_reducible refine wpList_load_ob 24 (.tmp 9) B2 (clCells y) 24 HUC.out ?_ ?_ ?_ ?_ ?_); (exact rfl); (exact (HS5.out).get 4 rfl); (exact rfl); (exact info_cl); simp only [Act.put, List.setIfInBounds_toArray, List.set_cons_zero, List.set_cons_succ]))
        have c0 : w6.cell? ⟨w.heap.size, 0, none⟩ = some (.int .i64 p.id) := HS5.out.at 0 rfl 0 rfl
        have hbu : ∀ W, Sem.run Try.prog (Instr.build 29 #[(0, .int .i64 p.id), (1, .int .i64 (k : Int)), (2, .agg (clCells x).toArray), (3, .agg (clCells y).toArray)]) W = .ok (.agg (chCells ⟨p.id, (k : Int), x, y⟩).toArray) W := fun W => by kernel_rfl
        go_wp2_with (first | ((with_reducible refine wpList_load_ob 24 (.tmp 8) B1 (clCells x) 24 HUC.out ?_ ?_ ?_ ?_ ?_); (exact rfl); (exact (HS5.out).get 3 rfl); (exact rfl); (exact info_cl); simp only [Act.put, List.setIfInBounds_toArray, List.set_cons_zero, List.set_cons_succ]) | ((with_reducible refine wpList_load_ob 24 (.tmp 9) B2 (clCells y) 24 HUC.out ?_ ?_ ?_ ?_ ?_); (exact rfl); (exact (HS5.out).get 4 rfl); (exact rfl); (exact info_cl); simp only [Act.put, List.setIfInBounds_toArray, List.set_cons_zero, List.set_cons_succ]) | ((with_reducible refine wpList_build_v 29 (.agg (chCells ⟨p.id, (k : Int), x, y⟩).toArray) ?_ ?_); (intro W; simp only [List.map_toArray, List.map_cons, List.map_nil]; exact hbu W); simp only [Act.put, List.setIfInBounds_toArray, List.set_cons_zero, List.set_cons_succ]) | ((with_reducible refine wpList_build_obs 51 1 elem_ch HUS.out [chCells ⟨p.id, (k : Int), x, y⟩] ?_ ?_ ?_ ?_ ?_ ?_); (exact (List.forall_mem_cons.2 ⟨rfl, (fun _ h => absurd h List.not_mem_nil)⟩)); (exact Nat.succ_pos _); (simp only [List.length_cons, List.length_nil]; omega); (exact rfl); (simp only [List.map_toArray, List.map_cons, List.map_nil, List.zipIdx_cons, List.zipIdx_nil]; exact rfl); simp only [Act.put, List.setIfInBounds_toArray, List.set_cons_zero, List.set_cons_succ]) | ((with_reducible refine wpList_append_hp ((HS5.out).put 29 (([chCells ⟨p.id, (k : Int), x, y⟩] : List (List Value)).flatMap id)) (.tmp 51) (.tmp 58) 51 2 (v := v) (e := 29) (z := 6) (n := (diffL p.id 0 (p.cells.take k) (q.cells.take k)).length) (xs := (diffL p.id 0 (p.cells.take k) (q.cells.take k)).flatMap chCells) ?_ 5 (b := (w6.heap.size)) (t' := 29) (ys := ([chCells ⟨p.id, (k : Int), x, y⟩] : List (List Value)).flatMap id) ?_ HUS.out elem_ch 1 1 ?_ ?_ ?_ ?_ ?_ ?_); (exact rfl); (exact rfl); (exact rfl); (exact rfl); (exact rfl); (exact (one_ch _)); (exact (by have := HLb.out; omega))))
        intro v7 w7 hs hnil
        have HS7 : Hid (Hp w [.ob (w.heap.size) 27 (pgCells p), .ob (w.heap.size + 1) 27 (pgCells q), .sl v7 29 6 ((diffL p.id 0 (p.cells.take k) (q.cells.take k)).length + 1) (((diffL p.id 0 (p.cells.take k) (q.cells.take k)).flatMap chCells) ++ (([chCells ⟨p.id, (k : Int), x, y⟩] : List (List Value)).flatMap id)), .ob B1 24 (clCells x), .ob B2 24 (clCells y), .ob (w6.heap.size) 29 (([chCells ⟨p.id, (k : Int), x, y⟩] : List (List Value)).flatMap id)] w7) := hs
        clear hs
        clear HS5
        generalize w6.heap.size = B3 at *
        have HS8 : Hid (Hp w [.ob (w.heap.size) 27 (pgCells p), .ob (w.heap.size + 1) 27 (pgCells q), .sl v7 29 6 ((diffL p.id 0 (p.cells.take k) (q.cells.take k)).length + 1) (((diffL p.id 0 (p.cells.take k) (q.cells.take k)).flatMap chCells) ++ (([chCells ⟨p.id, (k : Int), x, y⟩] : List (List Value)).flatMap id))] w7) := HS7.out.pull [0, 1, 2] rfl (pull_nd HS7.out.nd [0, 1, 2] rfl (by decide))
        clear HS7
        have HZ : Hid (Hp w [.ob (w.heap.size) 27 (pgCells p), .ob (w.heap.size + 1) 27 (pgCells q), .sl v7 29 6 ((diffL p.id 0 (p.cells.take (k + 1)) (q.cells.take (k + 1))).length) ((diffL p.id 0 (p.cells.take (k + 1)) (q.cells.take (k + 1))).flatMap chCells)] w7) := by show Hp _ _ _; rw [HD.out.1, HD.out.2]; exact HS8.out
        clear c0
        go_wp2_with fail
        go_roundw
        case rel => exact ⟨_, k + 1, rfl, by omega, by go_num, HZ.out⟩
        case measure => simp [intOf]; omega
    · obtain rfl : k = 16 := by omega
      rw [List.take_of_length_le (by rw [HPl.out]; omega), List.take_of_length_le (by rw [HQl.out]; omega)] at hs
      have HO := Lib.hid hs.old
      have HW := Lib.hid (hs.own 2 rfl)
      clear hs
      go_wp2_with fail
      go_ret2
      exact diffPost_mk HX.out HO.out HW.out
set_option maxHeartbeats 8000000 in
theorem rdiff_any (p q : Pg) (w : World) (hp : Good p) (hq : Good q) :
    Calls Try.prog 25 #[.agg (pgCells p).toArray, .agg (pgCells q).toArray] w (DiffPost p q w) := by
  have HPl := Lib.hid hp.len
  have HQl := Lib.hid hq.len
  have HPg := Lib.hid hp
  have HQg := Lib.hid hq
  clear hp hq
  obtain ⟨fs, hu⟩ := under_ch
  have HU := Lib.hid hu
  clear hu
  obtain ⟨fp, hu⟩ := under_page
  have HUP := Lib.hid hu
  clear hu
  obtain ⟨fc, hu⟩ := under_cell
  have HUC := Lib.hid hu
  clear hu
  have HUS : Hid (Try.prog.underlying 51 = some (.slice 29)) := Try.underlying51
  have HUR : Hid (Try.prog.underlying 25 = some (.array 16 24)) := under_cells
  have h1 := ((Hp.start w).put 27 (pgCells p)).put 27 (pgCells q)
  simp only [List.nil_append, List.cons_append, World.size_alloc] at h1
  have HB0 := Lib.hid h1
  clear h1
  go_enter Try.func25, Try.ntmps25
  go_upto_region 1 with (fail)
  have HS1 : Hid (Hp w [.ob (w.heap.size) 27 (pgCells p), .ob (w.heap.size + 1) 27 (pgCells q)] ((w.alloc (.cells (pgCells p).toArray 27)).alloc (.cells (pgCells q).toArray 27))) := HB0.out
  clear HB0
  generalize ((w.alloc (.cells (pgCells p).toArray 27)).alloc (.cells (pgCells q).toArray 27)) = w2 at *
  have c0 : w2.cell? ⟨w.heap.size, 0, none⟩ = some (.int .i64 p.id) := HS1.out.at 0 rfl 0 rfl
  have d0 : w2.cell? ⟨w.heap.size + 1, 0, none⟩ = some (.int .i64 q.id) := HS1.out.at 1 rfl 0 rfl
  have HO := Lib.hid HS1.out.old
  by_cases hid : p.id = q.id
  case neg =>
    have HX : Hid (diffR p q = ([], 6)) := by show _ = _; unfold diffR; rw [if_pos (sameV_false hid)]
    have hne : (p.id != q.id) = true := by simp; exact hid
    clear hid
    go_wp2_with fail
    go_ret2
    exact diffPost_nil HX.out HO.out
  have HI : Hid (¬ sameV p.id q.id = false) := by show ¬ _; rw [hid, sameV_self]; decide
  have hne : (p.id != q.id) = false := by simp; exact hid
  clear hid
  by_cases hr : 0 ≤ p.id ∧ p.id < 64
  case neg =>
    have HX : Hid (diffR p q = ([], 1)) := by show _ = _; unfold diffR; rw [if_neg HI.out, if_pos (by rw [Bool.eq_false_iff]; intro h; simp at h; exact hr h)]
    by_cases h0 : 0 ≤ p.id
    · have h1 : ¬ p.id < 64 := fun h => hr ⟨h0, h⟩
      clear hr
      go_wp2_with fail
      go_ret2
      exact diffPost_nil HX.out HO.out
    · clear hr
      go_wp2_with fail
      go_ret2
      exact diffPost_nil HX.out HO.out
  obtain ⟨hr0, hr1⟩ := hr
  have HPgI : Hid (¬ (decide (0 ≤ p.id) && decide (p.id < 64)) = false) := by show ¬ _; simp [hr0, hr1]
  go_wp2_with fail
  clear hr0 hr1 c0 d0 HO hne
  have HZ : Hid (Hp w [.ob (w.heap.size) 27 (pgCells p), .ob (w.heap.size + 1) 27 (pgCells q), .sl ((.slice none 0 0)) 29 6 ((diffL p.id 0 (p.cells.take 0) (q.cells.take 0)).length) ((diffL p.id 0 (p.cells.take 0) (q.cells.take 0)).flatMap chCells)] w2) := HS1.out.nil 29 6
  clear HS1
  go_loopw [6, 7] (fun sv i wr => ∃ (v : Value) (k : Nat), v = sv ∧ k ≤ 16 ∧ i = .int .i64 k ∧ (p.cells.take k).all cellOkB = true ∧ (q.cells.take k).all cellOkB = true ∧ Hp w [.ob (w.heap.size) 27 (pgCells p), .ob (w.heap.size + 1) 27 (pgCells q), .sl v 29 6 ((diffL p.id 0 (p.cells.take k) (q.cells.take k)).length) ((diffL p.id 0 (p.cells.take k) (q.cells.take k)).flatMap chCells)] wr) (fun _ i _ => 16 - (intOf i).toNat)
  case atStart => exact ⟨_, 0, rfl, by omega, rfl, rfl, rfl, HZ.out⟩
  case round =>
    obtain ⟨v, k, hv, hk, rfl, hpa, hqa, hs⟩ := hrel
    subst hv
    have HPa := Lib.hid hpa
    have HQa := Lib.hid hqa
    clear HZ hpa hqa
    by_cases hlt : k < 16
    · have HY := Lib.hid hs
      clear hs
      have hki : (k : Int) < 16 := by omega
      have hk0 : (0 : Int) ≤ (k : Int) := by omega
      have hkp : k < p.cells.length := by rw [HPl.out]; exact hlt
      have hkq : k < q.cells.length := by rw [HQl.out]; exact hlt
      obtain ⟨x, hx⟩ : ∃ c, p.cells[k]? = some c := ⟨_, List.getElem?_eq_getElem hkp⟩
      obtain ⟨y, hy⟩ : ∃ c, q.cells[k]? = some c := ⟨_, List.getElem?_eq_getElem hkq⟩
      have HXc := Lib.hid hx
      have HYc := Lib.hid hy
      have HKp := Lib.hid hkp
      have HLen : Hid (p.cells.length = q.cells.length) := HPl.out.trans HQl.out.symm
      have HXs : Hid (x.data.size ≤ maxLen) := HPg.out.data x (List.mem_of_getElem? hx)
      have HYs : Hid (y.data.size ≤ maxLen) := HQg.out.data y (List.mem_of_getElem? hy)
      have HM : Hid (∀ j u, (clCells x)[j]? = some u → (pgCells p)[2 + k * 2 + j]? = some u) := pg_mid p k hx
      have HN : Hid (∀ j u, (clCells y)[j]? = some u → (pgCells q)[2 + k * 2 + j]? = some u) := pg_mid q k hy
      have HLb : Hid ((diffL p.id 0 (p.cells.take k) (q.cells.take k)).length ≤ 16) := by
        show _ ≤ _
        have := diffL_len p.id 0 (p.cells.take k) (q.cells.take k)
        rw [List.length_take] at this
        omega
      clear hx hy hkp hkq
      go_wp2_with (first | ((with_reducible refine wpList_load_at 24 (.tmp 27) (w.heap.size) (2 + k * 2) (clCells x) HUC.out ?_ ?_ ?_ ?_ ?_); (exact rfl); (exact (HY.out).mid 0 rfl (2 + k * 2) _ (HM.out)); (exact rfl); (exact info_cl); simp only [Act.put, List.setIfInBounds_toArray, List.set_cons_zero, List.set_cons_succ]))
      refine (rvalidCell_cl x _ HXs.out).mono ?_
      rintro e w3 ⟨rfl, hb⟩
      have HS2 : Hid (Hp w [.ob (w.heap.size) 27 (pgCells p), .ob (w.heap.size + 1) 27 (pgCells q), .sl v 29 6 ((diffL p.id 0 (p.cells.take k) (q.cells.take k)).length) ((diffL p.id 0 (p.cells.take k) (q.cells.take k)).flatMap chCells)] w3) := (HY.out).calls hb
      clear hb
      clear HY
      cases hvx : cellOkB x
      case false =>
        have HX : Hid (diffR p q = ([], 22)) := by
          show _ = _
          unfold diffR
          rw [if_neg HI.out, if_neg HPgI.out, if_pos (by rw [Bool.and_eq_false_iff]; exact Or.inl (all_false (List.mem_of_getElem? HXc.out) hvx))]
        clear hvx
        go_wp2_with fail
        go_ret2
        exact diffPost_nil HX.out HS2.out.old
      go_wp2_with (first | ((with_reducible refine wpList_load_at_w 24 (.tmp 34) (w.heap.size + 1) (2 + k * 2) (clCells y) HUC.out ?_ ?_ ?_ ?_ ?_ ?_); (exact rfl); (exact rfl); (exact (HS2.out).mid 1 rfl (2 + k * 2) _ (HN.out)); (exact rfl); (exact info_cl); simp only [Act.put, List.setIfInBounds_toArray, List.set_cons_zero, List.set_cons_succ]))
      refine (rvalidCell_cl y _ HYs.out).mono ?_
      rintro e w4 ⟨rfl, hb⟩
      have HS3 : Hid (Hp w [.ob (w.heap.size) 27 (pgCells p), .ob (w.heap.size + 1) 27 (pgCells q), .sl v 29 6 ((diffL p.id 0 (p.cells.take k) (q.cells.take k)).length) ((diffL p.id 0 (p.cells.take k) (q.cells.take k)).flatMap chCells)] w4) := (HS2.out).calls hb
      clear hb
      clear HS2
      cases hvy : cellOkB y
      case false =>
        have HX : Hid (diffR p q = ([], 22)) := by
          show _ = _
          unfold diffR
          rw [if_neg HI.out, if_neg HPgI.out, if_pos (by rw [Bool.and_eq_false_iff]; exact Or.inr (all_false (List.mem_of_getElem? HYc.out) hvy))]
        clear hvy
        go_wp2_with fail
        go_ret2
        exact diffPost_nil HX.out HS3.out.old
      have HPk : Hid ((p.cells.take (k + 1)).all cellOkB = true) := by show _ = _; rw [List.take_add_one, HXc.out, List.all_append, HPa.out]; simp [hvx]
      have HQk : Hid ((q.cells.take (k + 1)).all cellOkB = true) := by show _ = _; rw [List.take_add_one, HYc.out, List.all_append, HQa.out]; simp [hvy]
      clear hvx hvy
      have hnx : ∀ W, Sem.run Try.prog (binOp .neq 24 (.agg (clCells x).toArray) (.agg (clCells y).toArray)) W = .ok (.bool (!sameV x y)) W := fun W => run_neq (equal_cl x y HXs.out HYs.out) W
      cases hxy : sameV x y
      all_goals rw [hxy] at hnx
      case true =>
        have HD : Hid (diffL p.id 0 (p.cells.take (k + 1)) (q.cells.take (k + 1)) = diffL p.id 0 (p.cells.take k) (q.cells.take k)) := by show _ = _; rw [diffL_succ p.id HLen.out k HKp.out HXc.out HYc.out, if_pos hxy, List.append_nil]
        clear hxy
        go_upto_region 11 with (fail)
        refine wp_region_held_drew (S := fun w' => Hold w.heap.size [.ob (w.heap.size) 27 (pgCells p), .ob (w.heap.size + 1) 27 (pgCells q)] w') (by kernel_rfl) ((HS3.out).drew.pick [0, 1] rfl) (fun hHeld => ?_)
        refine wpAnyH_take (i := 0) (oi := { dst := some 39, op := Op.move (Operand.tmp 7), type := 3, pos := "ref.go:60", after := #[], guard := none }) (v := ?q1v) rfl (by kernel_rfl) (by kernel_rfl) (by kernel_rfl) (fun _ _ _ h => h) (Or.inl ⟨by rfl, ?q1h⟩) hHeld ?q1r
        case q1h => (intro wq hSw; clear hSw; go_simp; try with_reducible rfl)
        try simp only [Act.put, List.setIfInBounds_toArray, List.set_cons_zero, List.set_cons_succ]
        refine wpAnyH_take (i := 1) (oi := { dst := some 40, op := Op.fieldAddr 27 (Operand.tmp 2) 2, type := 0, pos := "ref.go:60", after := #[], guard := none }) (v := ?q2v) rfl (by kernel_rfl) (by kernel_rfl) (by kernel_rfl) (fun _ _ _ h => h) (Or.inl ⟨by rfl, ?q2h⟩) hHeld ?q2r
        case q2h => (intro wq hSw; clear hSw; go_simp; try with_reducible rfl)
        try simp only [Act.put, List.setIfInBounds_toArray, List.set_cons_zero, List.set_cons_succ]
        refine wpAnyH_take (i := 2) (oi := { dst := some 41, op := Op.indexAddr 25 (Operand.tmp 40) (Operand.tmp 39), type := 0, pos := "ref.go:60", after := #[{ on := 1, ground := Ground.data }, { on := 0, ground := Ground.data }], guard := none }) (v := ?q3v) rfl (by kernel_rfl) (by kernel_rfl) (by kernel_rfl) (fun _ _ _ h => h) (Or.inl ⟨by rfl, ?q3h⟩) hHeld ?q3r
        case q3h => (intro wq hSw; clear hSw; go_simp; try with_reducible rfl)
        try simp only [Act.put, List.setIfInBounds_toArray, List.set_cons_zero, List.set_cons_succ]
        refine wpAnyH_take (i := 3) (oi := { dst := some 42, op := Op.load 24 (Operand.tmp 41), type := 24, pos := "ref.go:60", after := #[{ on := 2, ground := Ground.data }], guard := none }) rfl (by kernel_rfl) (by kernel_rfl) (by kernel_rfl) (fun _ _ _ h => h) (yieldsIf_load_mid (by rfl) 24 (.tmp 41) rfl (w.heap.size) (2 + k * 2) rfl (clCells x) _ (fun _ h => h.mid 0 rfl (2 + k * 2) _ (HM.out)) HUC.out rfl (info_cl)) hHeld ?_
        try simp only [Act.put, List.setIfInBounds_toArray, List.set_cons_zero, List.set_cons_succ]
        refine wpAnyH_take (i := 4) (oi := { dst := some 43, op := Op.move (Operand.tmp 7), type := 3, pos := "ref.go:60", after := #[], guard := none }) (v := ?q5v) rfl (by kernel_rfl) (by kernel_rfl) (by kernel_rfl) (fun _ _ _ h => h) (Or.inl ⟨by rfl, ?q5h⟩) hHeld ?q5r
        case q5h => (intro wq hSw; clear hSw; go_simp; try with_reducible rfl)
        try simp only [Act.put, List.setIfInBounds_toArray, List.set_cons_zero, List.set_cons_succ]
        refine wpAnyH_take (i := 5) (oi := { dst := some 44, op := Op.fieldAddr 27 (Operand.tmp 3) 2, type := 0, pos := "ref.go:60", after := #[], guard := none }) (v := ?q6v) rfl (by kernel_rfl) (by kernel_rfl) (by kernel_rfl) (fun _ _ _ h => h) (Or.inl ⟨by rfl, ?q6h⟩) hHeld ?q6r
        case q6h => (intro wq hSw; clear hSw; go_simp; try with_reducible rfl)
        try simp only [Act.put, List.setIfInBounds_toArray, List.set_cons_zero, List.set_cons_succ]
        refine wpAnyH_take (i := 6) (oi := { dst := some 45, op := Op.indexAddr 25 (Operand.tmp 44) (Operand.tmp 43), type := 0, pos := "ref.go:60", after := #[{ on := 5, ground := Ground.data }, { on := 4, ground := Ground.data }], guard := none }) (v := ?q7v) rfl (by kernel_rfl) (by kernel_rfl) (by kernel_rfl) (fun _ _ _ h => h) (Or.inl ⟨by rfl, ?q7h⟩) hHeld ?q7r
        case q7h => (intro wq hSw; clear hSw; go_simp; try with_reducible rfl)
        try simp only [Act.put, List.setIfInBounds_toArray, List.set_cons_zero, List.set_cons_succ]
        refine wpAnyH_take (i := 7) (oi := { dst := some 46, op := Op.load 24 (Operand.tmp 45), type := 24, pos := "ref.go:60", after := #[{ on := 6, ground := Ground.data }], guard := none }) rfl (by kernel_rfl) (by kernel_rfl) (by kernel_rfl) (fun _ _ _ h => h) (yieldsIf_load_mid (by rfl) 24 (.tmp 45) rfl (w.heap.size + 1) (2 + k * 2) rfl (clCells y) _ (fun _ h => h.mid 1 rfl (2 + k * 2) _ (HN.out)) HUC.out rfl (info_cl)) hHeld ?_
        try simp only [Act.put, List.setIfInBounds_toArray, List.set_cons_zero, List.set_cons_succ]
        refine wpAnyH_take (i := 8) (oi := { dst := some 47, op := Op.binOp BinOp.neq 24 (Operand.tmp 42) (Operand.tmp 46) 24, type := 4, pos := "ref.go:60", after := #[{ on := 3, ground := Ground.data }, { on := 7, ground := Ground.data }], guard := none }) (v := ?q9v) rfl (by kernel_rfl) (by kernel_rfl) (by kernel_rfl) (fun _ _ _ h => h) (Or.inl ⟨by rfl, ?q9h⟩) hHeld ?q9r
        case q9h => (intro wq hSw; clear hSw; go_simp; try with_reducible rfl)
        try simp only [Act.put, List.setIfInBounds_toArray, List.set_cons_zero, List.set_cons_succ]
        refine wpAnyH_done (by kernel_rfl) ?_ _
        clear hHeld
        have HZ : Hid (Hp w [.ob (w.heap.size) 27 (pgCells p), .ob (w.heap.size + 1) 27 (pgCells q), .sl v 29 6 ((diffL p.id 0 (p.cells.take (k + 1)) (q.cells.take (k + 1))).length) ((diffL p.id 0 (p.cells.take (k + 1)) (q.cells.take (k + 1))).flatMap chCells)] w4.drew) := by show Hp _ _ _; rw [HD.out]; exact (HS3.out).drew
        go_wp2_with fail
        go_roundw
        case rel => exact ⟨_, k + 1, rfl, by omega, by go_num, HPk.out, HQk.out, HZ.out⟩
        case measure => simp [intOf]; omega
      case false =>
        have HD := Lib.hid (diffL_flat p.id HLen.out k HKp.out HXc.out HYc.out hxy)
        clear hxy
        go_upto_region 11 with (fail)
        refine wp_region_held_drew (S := fun w' => Hold w.heap.size [.ob (w.heap.size) 27 (pgCells p), .ob (w.heap.size + 1) 27 (pgCells q)] w') (by kernel_rfl) ((HS3.out).drew.pick [0, 1] rfl) (fun hHeld => ?_)
        refine wpAnyH_take (i := 0) (oi := { dst := some 39, op := Op.move (Operand.tmp 7), type := 3, pos := "ref.go:60", after := #[], guard := none }) (v := ?q10v) rfl (by kernel_rfl) (by kernel_rfl) (by kernel_rfl) (fun _ _ _ h => h) (Or.inl ⟨by rfl, ?q10h⟩) hHeld ?q10r
        case q10h => (intro wq hSw; clear hSw; go_simp; try with_reducible rfl)
        try simp only [Act.put, List.setIfInBounds_toArray, List.set_cons_zero, List.set_cons_succ]
        refine wpAnyH_take (i := 1) (oi := { dst := some 40, op := Op.fieldAddr 27 (Operand.tmp 2) 2, type := 0, pos := "ref.go:60", after := #[], guard := none }) (v := ?q11v) rfl (by kernel_rfl) (by kernel_rfl) (by kernel_rfl) (fun _ _ _ h => h) (Or.inl ⟨by rfl, ?q11h⟩) hHeld ?q11r
        case q11h => (intro wq hSw; clear hSw; go_simp; try with_reducible rfl)
        try simp only [Act.put, List.setIfInBounds_toArray, List.set_cons_zero, List.set_cons_succ]
        refine wpAnyH_take (i := 2) (oi := { dst := some 41, op := Op.indexAddr 25 (Operand.tmp 40) (Operand.tmp 39), type := 0, pos := "ref.go:60", after := #[{ on := 1, ground := Ground.data }, { on := 0, ground := Ground.data }], guard := none }) (v := ?q12v) rfl (by kernel_rfl) (by kernel_rfl) (by kernel_rfl) (fun _ _ _ h => h) (Or.inl ⟨by rfl, ?q12h⟩) hHeld ?q12r
        case q12h => (intro wq hSw; clear hSw; go_simp; try with_reducible rfl)
        try simp only [Act.put, List.setIfInBounds_toArray, List.set_cons_zero, List.set_cons_succ]
        refine wpAnyH_take (i := 3) (oi := { dst := some 42, op := Op.load 24 (Operand.tmp 41), type := 24, pos := "ref.go:60", after := #[{ on := 2, ground := Ground.data }], guard := none }) rfl (by kernel_rfl) (by kernel_rfl) (by kernel_rfl) (fun _ _ _ h => h) (yieldsIf_load_mid (by rfl) 24 (.tmp 41) rfl (w.heap.size) (2 + k * 2) rfl (clCells x) _ (fun _ h => h.mid 0 rfl (2 + k * 2) _ (HM.out)) HUC.out rfl (info_cl)) hHeld ?_
        try simp only [Act.put, List.setIfInBounds_toArray, List.set_cons_zero, List.set_cons_succ]
        refine wpAnyH_take (i := 4) (oi := { dst := some 43, op := Op.move (Operand.tmp 7), type := 3, pos := "ref.go:60", after := #[], guard := none }) (v := ?q14v) rfl (by kernel_rfl) (by kernel_rfl) (by kernel_rfl) (fun _ _ _ h => h) (Or.inl ⟨by rfl, ?q14h⟩) hHeld ?q14r
        case q14h => (intro wq hSw; clear hSw; go_simp; try with_reducible rfl)
        try simp only [Act.put, List.setIfInBounds_toArray, List.set_cons_zero, List.set_cons_succ]
        refine wpAnyH_take (i := 5) (oi := { dst := some 44, op := Op.fieldAddr 27 (Operand.tmp 3) 2, type := 0, pos := "ref.go:60", after := #[], guard := none }) (v := ?q15v) rfl (by kernel_rfl) (by kernel_rfl) (by kernel_rfl) (fun _ _ _ h => h) (Or.inl ⟨by rfl, ?q15h⟩) hHeld ?q15r
        case q15h => (intro wq hSw; clear hSw; go_simp; try with_reducible rfl)
        try simp only [Act.put, List.setIfInBounds_toArray, List.set_cons_zero, List.set_cons_succ]
        refine wpAnyH_take (i := 6) (oi := { dst := some 45, op := Op.indexAddr 25 (Operand.tmp 44) (Operand.tmp 43), type := 0, pos := "ref.go:60", after := #[{ on := 5, ground := Ground.data }, { on := 4, ground := Ground.data }], guard := none }) (v := ?q16v) rfl (by kernel_rfl) (by kernel_rfl) (by kernel_rfl) (fun _ _ _ h => h) (Or.inl ⟨by rfl, ?q16h⟩) hHeld ?q16r
        case q16h => (intro wq hSw; clear hSw; go_simp; try with_reducible rfl)
        try simp only [Act.put, List.setIfInBounds_toArray, List.set_cons_zero, List.set_cons_succ]
        refine wpAnyH_take (i := 7) (oi := { dst := some 46, op := Op.load 24 (Operand.tmp 45), type := 24, pos := "ref.go:60", after := #[{ on := 6, ground := Ground.data }], guard := none }) rfl (by kernel_rfl) (by kernel_rfl) (by kernel_rfl) (fun _ _ _ h => h) (yieldsIf_load_mid (by rfl) 24 (.tmp 45) rfl (w.heap.size + 1) (2 + k * 2) rfl (clCells y) _ (fun _ h => h.mid 1 rfl (2 + k * 2) _ (HN.out)) HUC.out rfl (info_cl)) hHeld ?_
        try simp only [Act.put, List.setIfInBounds_toArray, List.set_cons_zero, List.set_cons_succ]
        refine wpAnyH_take (i := 8) (oi := { dst := some 47, op := Op.binOp BinOp.neq 24 (Operand.tmp 42) (Operand.tmp 46) 24, type := 4, pos := "ref.go:60", after := #[{ on := 3, ground := Ground.data }, { on := 7, ground := Ground.data }], guard := none }) (v := ?q18v) rfl (by kernel_rfl) (by kernel_rfl) (by kernel_rfl) (fun _ _ _ h => h) (Or.inl ⟨by rfl, ?q18h⟩) hHeld ?q18r
        case q18h => (intro wq hSw; clear hSw; go_simp; try with_reducible rfl)
        try simp only [Act.put, List.setIfInBounds_toArray, List.set_cons_zero, List.set_cons_succ]
        refine wpAnyH_done (by kernel_rfl) ?_ _
        clear hHeld
        have HS4 : Hid (Hp w [.ob (w.heap.size) 27 (pgCells p), .ob (w.heap.size + 1) 27 (pgCells q), .sl v 29 6 ((diffL p.id 0 (p.cells.take k) (q.cells.take k)).length) ((diffL p.id 0 (p.cells.take k) (q.cells.take k)).flatMap chCells)] (w4.drew)) := (HS3.out).drew
        clear HS3
        generalize w4.drew = w5 at *
        go_upto_region 12 with (fail)
        have hbu : ∀ W, Sem.run Try.prog (Instr.build 29 #[(0, .int .i64 p.id), (1, .int .i64 (k : Int)), (2, .agg (clCells x).toArray), (3, .agg (clCells y).toArray)]) W = .ok (.agg (chCells ⟨p.id, (k : Int), x, y⟩).toArray) W := fun W => by kernel_rfl
        refine wp_region_held_drew (S := fun w' => Hold w.heap.size [.ob (w.heap.size) 27 (pgCells p), .ob (w.heap.size + 1) 27 (pgCells q)] w') (by kernel_rfl) ((HS4.out).drew.pick [0, 1] rfl) (fun hHeld => ?_)
        refine wpAnyH_take (i := 0) (oi := { dst := some 48, op := Op.move (Operand.tmp 6), type := 51, pos := "ref.go:61", after := #[], guard := none }) (v := ?q19v) rfl (by kernel_rfl) (by kernel_rfl) (by kernel_rfl) (fun _ _ _ h => h) (Or.inl ⟨by rfl, ?q19h⟩) hHeld ?q19r
        case q19h => (intro wq hSw; clear hSw; go_simp; try with_reducible rfl)
        try simp only [Act.put, List.setIfInBounds_toArray, List.set_cons_zero, List.set_cons_succ]
        refine wpAnyH_take (i := 1) (oi := { dst := some 49, op := Op.fieldAddr 27 (Operand.tmp 2) 0, type := 0, pos := "ref.go:61", after := #[], guard := none }) (v := ?q20v) rfl (by kernel_rfl) (by kernel_rfl) (by kernel_rfl) (fun _ _ _ h => h) (Or.inl ⟨by rfl, ?q20h⟩) hHeld ?q20r
        case q20h => (intro wq hSw; clear hSw; go_simp; try with_reducible rfl)
        try simp only [Act.put, List.setIfInBounds_toArray, List.set_cons_zero, List.set_cons_succ]
        refine wpAnyH_take (i := 2) (oi := { dst := some 50, op := Op.load 3 (Operand.tmp 49), type := 3, pos := "ref.go:61", after := #[{ on := 1, ground := Ground.data }], guard := none }) (v := ?q21v) rfl (by kernel_rfl) (by kernel_rfl) (by kernel_rfl) (fun _ _ _ h => h) (Or.inl ⟨by rfl, ?q21h⟩) hHeld ?q21r
        case q21h => (intro wq hSw; have q0 := hSw.at 0 rfl 0 rfl; clear hSw; go_simp; try with_reducible rfl)
        try simp only [Act.put, List.setIfInBounds_toArray, List.set_cons_zero, List.set_cons_succ]
        refine wpAnyH_take (i := 3) (oi := { dst := some 51, op := Op.move (Operand.tmp 7), type := 3, pos := "ref.go:61", after := #[], guard := none }) (v := ?q22v) rfl (by kernel_rfl) (by kernel_rfl) (by kernel_rfl) (fun _ _ _ h => h) (Or.inl ⟨by rfl, ?q22h⟩) hHeld ?q22r
        case q22h => (intro wq hSw; clear hSw; go_simp; try with_reducible rfl)
        try simp only [Act.put, List.setIfInBounds_toArray, List.set_cons_zero, List.set_cons_succ]
        refine wpAnyH_take (i := 4) (oi := { dst := some 52, op := Op.move (Operand.tmp 7), type := 3, pos := "ref.go:61", after := #[], guard := none }) (v := ?q23v) rfl (by kernel_rfl) (by kernel_rfl) (by kernel_rfl) (fun _ _ _ h => h) (Or.inl ⟨by rfl, ?q23h⟩) hHeld ?q23r
        case q23h => (intro wq hSw; clear hSw; go_simp; try with_reducible rfl)
        try simp only [Act.put, List.setIfInBounds_toArray, List.set_cons_zero, List.set_cons_succ]
        refine wpAnyH_take (i := 5) (oi := { dst := some 53, op := Op.fieldAddr 27 (Operand.tmp 2) 2, type := 0, pos := "ref.go:61", after := #[], guard := none }) (v := ?q24v) rfl (by kernel_rfl) (by kernel_rfl) (by kernel_rfl) (fun _ _ _ h => h) (Or.inl ⟨by rfl, ?q24h⟩) hHeld ?q24r
        case q24h => (intro wq hSw; clear hSw; go_simp; try with_reducible rfl)
        try simp only [Act.put, List.setIfInBounds_toArray, List.set_cons_zero, List.set_cons_succ]
        refine wpAnyH_take (i := 6) (oi := { dst := some 54, op := Op.indexAddr 25 (Operand.tmp 53) (Operand.tmp 52), type := 0, pos := "ref.go:61", after := #[{ on := 5, ground := Ground.data }, { on := 4, ground := Ground.data }], guard := none }) (v := ?q25v) rfl (by kernel_rfl) (by kernel_rfl) (by kernel_rfl) (fun _ _ _ h => h) (Or.inl ⟨by rfl, ?q25h⟩) hHeld ?q25r
        case q25h => (intro wq hSw; clear hSw; go_simp; try with_reducible rfl)
        try simp only [Act.put, List.setIfInBounds_toArray, List.set_cons_zero, List.set_cons_succ]
        refine wpAnyH_take (i := 7) (oi := { dst := some 55, op := Op.load 24 (Operand.tmp 54), type := 24, pos := "ref.go:61", after := #[{ on := 6, ground := Ground.data }], guard := none }) rfl (by kernel_rfl) (by kernel_rfl) (by kernel_rfl) (fun _ _ _ h => h) (yieldsIf_load_mid (by rfl) 24 (.tmp 54) rfl (w.heap.size) (2 + k * 2) rfl (clCells x) _ (fun _ h => h.mid 0 rfl (2 + k * 2) _ (HM.out)) HUC.out rfl (info_cl)) hHeld ?_
        try simp only [Act.put, List.setIfInBounds_toArray, List.set_cons_zero, List.set_cons_succ]
        refine wpAnyH_take (i := 8) (oi := { dst := some 56, op := Op.move (Operand.tmp 7), type := 3, pos := "ref.go:61", after := #[], guard := none }) (v := ?q27v) rfl (by kernel_rfl) (by kernel_rfl) (by kernel_rfl) (fun _ _ _ h => h) (Or.inl ⟨by rfl, ?q27h⟩) hHeld ?q27r
        case q27h => (intro wq hSw; clear hSw; go_simp; try with_reducible rfl)
        try simp only [Act.put, List.setIfInBounds_toArray, List.set_cons_zero, List.set_cons_succ]
        refine wpAnyH_take (i := 9) (oi := { dst := some 57, op := Op.fieldAddr 27 (Operand.tmp 3) 2, type := 0, pos := "ref.go:61", after := #[], guard := none }) (v := ?q28v) rfl (by kernel_rfl) (by kernel_rfl) (by kernel_rfl) (fun _ _ _ h => h) (Or.inl ⟨by rfl, ?q28h⟩) hHeld ?q28r
        case q28h => (intro wq hSw; clear hSw; go_simp; try with_reducible rfl)
        try simp only [Act.put, List.setIfInBounds_toArray, List.set_cons_zero, List.set_cons_succ]
        refine wpAnyH_take (i := 10) (oi := { dst := some 58, op := Op.indexAddr 25 (Operand.tmp 57) (Operand.tmp 56), type := 0, pos := "ref.go:61", after := #[{ on := 9, ground := Ground.data }, { on := 8, ground := Ground.data }], guard := none }) (v := ?q29v) rfl (by kernel_rfl) (by kernel_rfl) (by kernel_rfl) (fun _ _ _ h => h) (Or.inl ⟨by rfl, ?q29h⟩) hHeld ?q29r
        case q29h => (intro wq hSw; clear hSw; go_simp; try with_reducible rfl)
        try simp only [Act.put, List.setIfInBounds_toArray, List.set_cons_zero, List.set_cons_succ]
        refine wpAnyH_take (i := 11) (oi := { dst := some 59, op := Op.load 24 (Operand.tmp 58), type := 24, pos := "ref.go:61", after := #[{ on := 10, ground := Ground.data }], guard := none }) rfl (by kernel_rfl) (by kernel_rfl) (by kernel_rfl) (fun _ _ _ h => h) (yieldsIf_load_mid (by rfl) 24 (.tmp 58) rfl (w.heap.size + 1) (2 + k * 2) rfl (clCells y) _ (fun _ h => h.mid 1 rfl (2 + k * 2) _ (HN.out)) HUC.out rfl (info_cl)) hHeld ?_
        try simp only [Act.put, List.setIfInBounds_toArray, List.set_cons_zero, List.set_cons_succ]
        refine wpAnyH_take (i := 12) (oi := { dst := some 60, op := Op.build 29 #[(0, Operand.tmp 50), (1, Operand.tmp 51), (2, Operand.tmp 55), (3, Operand.tmp 59)], type := 29, pos := "ref.go:61", after := #[{ on := 2, ground := Ground.data }, { on := 3, ground := Ground.data }, { on := 7, ground := Ground.data }, { on := 11, ground := Ground.data }], guard := none }) rfl (by kernel_rfl) (by kernel_rfl) (by kernel_rfl) (fun _ _ _ h => h) (yieldsIf_build_v (by rfl) 29 (.agg (chCells ⟨p.id, (k : Int), x, y⟩).toArray) rfl (fun W => by simp only [List.map_toArray, List.map_cons, List.map_nil]; exact hbu W)) hHeld ?_
        try simp only [Act.put, List.setIfInBounds_toArray, List.set_cons_zero, List.set_cons_succ]
        refine wpAnyH_ready (rs := [13]) (by kernel_rfl) (by simp) ?_
        refine AllReadyH.cons (o := { dst := some 61, op := Op.buildSlice 51 1 #[(0, Operand.tmp 60)], type := 51, pos := "ref.go:61", after := #[{ on := 12, ground := Ground.data }], guard := none }) rfl (fun K hK => ?_) (AllReadyH.nil)
        rw [if_pos (by rfl)]
        refine wp_build_obs rfl elem_ch HUS.out [chCells ⟨p.id, (k : Int), x, y⟩] (List.forall_mem_cons.2 ⟨rfl, (fun _ h => absurd h List.not_mem_nil)⟩) (Nat.succ_pos _) (by simp only [List.length_cons, List.length_nil]; omega) rfl (by simp only [List.map_toArray, List.map_cons, List.map_nil, List.zipIdx_cons, List.zipIdx_nil]; exact rfl) ?_
        have HS5 : Hid (Hp w [.ob (w.heap.size) 27 (pgCells p), .ob (w.heap.size + 1) 27 (pgCells q), .sl v 29 6 ((diffL p.id 0 (p.cells.take k) (q.cells.take k)).length) ((diffL p.id 0 (p.cells.take k) (q.cells.take k)).flatMap chCells), .ob (w5.drew.heap.size) 29 (([chCells ⟨p.id, (k : Int), x, y⟩] : List (List Value)).flatMap id)] (w5.drew.alloc (.cells (([chCells ⟨p.id, (k : Int), x, y⟩] : List (List Value)).flatMap id).toArray 29))) := ((HS4.out).drew).put 29 (([chCells ⟨p.id, (k : Int), x, y⟩] : List (List Value)).flatMap id)
        refine hK.out _ _ (HS5.out.pick [0, 1] rfl) (fun hHeld => ?_)
        clear hK K
        generalize (w5.drew.alloc (.cells (([chCells ⟨p.id, (k : Int), x, y⟩] : List (List Value)).flatMap id).toArray 29)) = w6 at *
        generalize w5.drew.heap.size = B1 at *
        try simp only [Act.put, List.setIfInBounds_toArray, List.set_cons_zero, List.set_cons_succ]
        refine wpAnyH_ready (rs := [14]) (by kernel_rfl) (by simp) ?_
        refine AllReadyH.cons (o := { dst := some 62, op := Op.call { callee := Callee.builtin Builtin.append, args := #[Operand.tmp 48, Operand.tmp 61], argTypes := #[51, 51] }, type := 51, pos := "ref.go:61", after := #[{ on := 0, ground := Ground.data }, { on := 13, ground := Ground.data }], guard := none }) rfl (fun K hK => ?_) (AllReadyH.nil)
        rw [if_pos (by rfl)]
        refine wp_append_hp (HS5.out) (.tmp 48) (.tmp 61) 51 rfl 2 rfl 3 rfl HUS.out elem_ch 1 1 rfl rfl rfl (one_ch _) (by have := HLb.out; omega) ?_
        intro v7 w7 hs hnil
        have HS7 : Hid (Hp w [.ob (w.heap.size) 27 (pgCells p), .ob (w.heap.size + 1) 27 (pgCells q), .sl v7 29 6 ((diffL p.id 0 (p.cells.take k) (q.cells.take k)).length + 1) (((diffL p.id 0 (p.cells.take k) (q.cells.take k)).flatMap chCells) ++ (([chCells ⟨p.id, (k : Int), x, y⟩] : List (List Value)).flatMap id)), .ob B1 29 (([chCells ⟨p.id, (k : Int), x, y⟩] : List (List Value)).flatMap id)] w7) := hs
        refine hK.out _ _ (HS7.out.pick [0, 1] rfl) (fun hHeld => ?_)
        clear hK K hs
        try simp only [Act.put, List.setIfInBounds_toArray, List.set_cons_zero, List.set_cons_succ]
        refine wpAnyH_take (i := 15) (oi := { dst := some 6, op := Op.assign (Operand.tmp 62), type := 51, pos := "ref.go:61", after := #[{ on := 14, ground := Ground.data }, { on := 14, ground := Ground.chain }, { on := 0, ground := Ground.phase }, { on := 1, ground := Ground.phase }, { on := 2, ground := Ground.phase }, { on := 3, ground := Ground.phase }, { on := 4, ground := Ground.phase }, { on := 5, ground := Ground.phase }, { on := 6, ground := Ground.phase }, { on := 7, ground := Ground.phase }, { on := 8, ground := Ground.phase }, { on := 9, ground := Ground.phase }, { on := 10, ground := Ground.phase }, { on := 11, ground := Ground.phase }, { on := 12, ground := Ground.phase }, { on := 13, ground := Ground.phase }, { on := 14, ground := Ground.phase }], guard := none }) (v := ?q32v) rfl (by kernel_rfl) (by kernel_rfl) (by kernel_rfl) (fun _ _ _ h => h) (Or.inl ⟨by rfl, ?q32h⟩) hHeld ?q32r
        case q32h => (intro wq hSw; clear hSw; go_simp; try with_reducible rfl)
        try simp only [Act.put, List.setIfInBounds_toArray, List.set_cons_zero, List.set_cons_succ]
        refine wpAnyH_done (by kernel_rfl) ?_ _
        clear hHeld
        have HS8 : Hid (Hp w [.ob (w.heap.size) 27 (pgCells p), .ob (w.heap.size + 1) 27 (pgCells q), .sl v7 29 6 ((diffL p.id 0 (p.cells.take k) (q.cells.take k)).length + 1) (((diffL p.id 0 (p.cells.take k) (q.cells.take k)).flatMap chCells) ++ (([chCells ⟨p.id, (k : Int), x, y⟩] : List (List Value)).flatMap id))] w7) := HS7.out.pull [0, 1, 2] rfl (pull_nd HS7.out.nd [0, 1, 2] rfl (by decide))
        clear HS7
        have HZ : Hid (Hp w [.ob (w.heap.size) 27 (pgCells p), .ob (w.heap.size + 1) 27 (pgCells q), .sl v7 29 6 ((diffL p.id 0 (p.cells.take (k + 1)) (q.cells.take (k + 1))).length) ((diffL p.id 0 (p.cells.take (k + 1)) (q.cells.take (k + 1))).flatMap chCells)] w7) := by show Hp _ _ _; rw [HD.out.1, HD.out.2]; exact HS8.out
        go_wp2_with fail
        go_roundw
        case rel => exact ⟨_, k + 1, rfl, by omega, by go_num, HPk.out, HQk.out, HZ.out⟩
        case measure => simp [intOf]; omega
    · obtain rfl : k = 16 := by omega
      have hpa := HPa.out
      have hqa := HQa.out
      rw [List.take_of_length_le (by rw [HPl.out]; omega)] at hpa
      rw [List.take_of_length_le (by rw [HQl.out]; omega)] at hqa
      have HX : Hid (diffR p q = (diffL p.id 0 p.cells q.cells, 0)) := by show _ = _; unfold diffR; rw [if_neg HI.out, if_neg HPgI.out, if_neg (by rw [hpa, hqa]; decide)]
      clear hpa hqa
      rw [List.take_of_length_le (by rw [HPl.out]; omega), List.take_of_length_le (by rw [HQl.out]; omega)] at hs
      have HO := Lib.hid hs.old
      have HW := Lib.hid (hs.own 2 rfl)
      clear hs
      go_wp2_with fail
      go_ret2
      exact diffPost_mk HX.out HO.out HW.out
end Go.Proofs.Ytbadfcnkpeohfaa
