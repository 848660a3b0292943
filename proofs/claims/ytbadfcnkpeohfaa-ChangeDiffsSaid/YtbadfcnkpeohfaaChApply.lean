/- the walk of Apply, the program's and the reference's -/
import Derived.Test.YtbadfcnkpeohfaaChInv
namespace Go.Proofs.Ytbadfcnkpeohfaa
open Go.RowKit

set_option maxHeartbeats 1000000 in
theorem apply_any (p : Pg) (c : Chg) (w : World) (hp : Good p) (hc : GoodCh c) :
    Calls Try.prog 22 #[.agg (pgCells p).toArray, .agg (chCells c).toArray] w fun e w' => e = .returned (.tuple #[.agg (pgCells (applyR p c).1).toArray, .int .i64 (applyR p c).2]) ∧ Below w.heap.size w w' := by
  have HVc : Hid (∀ W, Calls Try.prog 15 #[.agg (chCells c).toArray] W fun e w' => e = .returned (.bool (chOkB c)) ∧ Below W.heap.size W w') := fun W => valid_ch c W hc.before hc.after
  have HNe : Hid (∀ W, Sem.run Try.prog (binOp .neq 24 (.agg #[.bool c.before.set, .string c.before.data]) (.agg #[.bool (p.cells.getD c.slot.toNat emptyCl).set, .string (p.cells.getD c.slot.toNat emptyCl).data])) W = .ok (.bool (!sameV c.before (p.cells.getD c.slot.toNat emptyCl))) W) := fun W => run_neq (equal_cl _ _ hc.before (good_cell hp _)) W
  have HBu : Hid (∀ W, Sem.run Try.prog (Instr.build 27 #[]) W = .ok (.agg (pgCells (newPg 0)).toArray) W) := fun W => by kernel_rfl
  have HPl := Lib.hid hp.len
  clear hp hc
  obtain ⟨fs, hu⟩ := under_ch
  have HU := Lib.hid hu
  clear hu
  obtain ⟨fp, hu⟩ := under_page
  have HUP := Lib.hid hu
  clear hu
  have h3 := (((Fr.start w).put 27 (pgCells p)).put 29 (chCells c)).put 27 (pgCells (newPg 0))
  simp only [World.size_alloc, List.nil_append, List.cons_append] at h3
  have HF := Lib.hid h3
  clear h3
  have HJ : Hid (∀ x n w', applyR p c = (x, n) → Below w.heap.size w w' → Ending.returned (.tuple #[.agg (pgCells x).toArray, .int .i64 n]) = .returned (.tuple #[.agg (pgCells (applyR p c).1).toArray, .int .i64 (applyR p c).2]) ∧ Below w.heap.size w w') := fun x n w' h hf => ⟨by rw [h], hf⟩
  go_enter Try.func22, Try.ntmps22
  go_wp2_with (first | ((with_reducible refine wpList_alloc_pg ?_); simp only [Act.put, List.setIfInBounds_toArray, List.set_cons_zero, List.set_cons_succ]) | ((with_reducible refine wpList_load_ob 29 (.tmp 3) (w.heap.size + 1) (chCells c) 29 HU.out ?_ ?_ ?_ ?_ ?_); (exact rfl); (exact HF.out.get 1 rfl); (exact rfl); (exact info_ch); simp only [Act.put, List.setIfInBounds_toArray, List.set_cons_zero, List.set_cons_succ]))
  refine (HVc.out _).mono ?_
  rintro e w2 ⟨rfl, hb2⟩
  have HF2 := Lib.hid (HF.out.calls hb2)
  clear hb2 HF
  cases hv : chOkB c
  · go_wp2_with (first | ((with_reducible refine wpList_build_v 27 (.agg (pgCells (newPg 0)).toArray) ?_ ?_); (exact HBu.out); simp only [Act.put, List.setIfInBounds_toArray, List.set_cons_zero, List.set_cons_succ]) | ((with_reducible refine wpList_store_ob 27 (.tmp 4) (w.heap.size + 1 + 1) (pgCells (newPg 0)) (pgCells (newPg 0)) 27 ?_ ?_ ?_ ?_ ?_ ?_ ?_); (exact rfl); (exact rfl); (exact HF2.out.get 2 rfl); (exact (info_pgc rfl)); (exact rfl); (exact (oneCell_pg _)); skip))
    refine bodyPost_ret (results_ob_tmp Try.results22 _ _ (w.heap.size + 1 + 1) (pgCells (newPg 0)) 27 _ rfl ((HF2.out.row 2 rfl (pgCells (newPg 0))).get 2 rfl) HUP.out rfl (info_pgc rfl)) rfl ?_
    exact HJ.out (newPg 0) 22 _ (by unfold applyR; rw [if_pos hv]) ((HF2.out.row 2 rfl (pgCells (newPg 0)))).old
  · have HV : Hid (¬ chOkB c = false) := by show ¬ _; rw [hv]; decide
    obtain ⟨_, _, s0, s1, _, _⟩ := chOk_parts hv
    obtain ⟨k, hk⟩ := Int.eq_ofNat_of_zero_le s0
    have hk16 : k < 16 := by omega
    have HKn : Hid (c.slot.toNat = k) := by show _ = _; omega
    have HK := Lib.hid hk
    clear hv s0 s1 hk
    have hcells := HF2.out
    have c0 : w2.cell? ⟨w.heap.size + 1, 0, none⟩ = some (.int .i64 c.page) := (hcells.at 1 rfl).at 0 rfl
    have c1 : w2.cell? ⟨w.heap.size + 1, 1, none⟩ = some (.int .i64 (k : Int)) := by rw [← HK.out]; exact (hcells.at 1 rfl).at 1 rfl
    have c2 : w2.cell? ⟨w.heap.size + 1, 2, none⟩ = some (.bool c.before.set) := (hcells.at 1 rfl).at 2 rfl
    have c3 : w2.cell? ⟨w.heap.size + 1, 3, none⟩ = some (.string c.before.data) := (hcells.at 1 rfl).at 3 rfl
    have c4 : w2.cell? ⟨w.heap.size + 1, 4, none⟩ = some (.bool c.after.set) := (hcells.at 1 rfl).at 4 rfl
    have c5 : w2.cell? ⟨w.heap.size + 1, 5, none⟩ = some (.string c.after.data) := (hcells.at 1 rfl).at 5 rfl
    have p0 : w2.cell? ⟨w.heap.size, 0, none⟩ = some (.int .i64 p.id) := (hcells.at 0 rfl).at 0 rfl
    by_cases hps : c.page = p.id
    · have HPS : Hid (¬ sameV c.page p.id = false) := by show ¬ _; rw [hps, sameV_self]; decide
      have hpn : (c.page != p.id) = false := by rw [hps]; simp
      clear hps
      have hkl : k < p.cells.length := by rw [HPl.out]; exact hk16
      obtain ⟨x, hx⟩ : ∃ x, p.cells[k] = x := ⟨_, rfl⟩
      have HD : Hid (p.cells.getD c.slot.toNat emptyCl = x) := by show _ = _; rw [HKn.out, getD_eq hkl]; exact hx
      have hne := HNe.out
      rw [HD.out] at hne
      have k0 : w2.cell? ⟨w.heap.size, 2 + k * 2, none⟩ = some (.bool x.set) := by rw [← hx]; exact (hcells.at 0 rfl).at _ (pgCells_at p k hkl).1
      have k1 : w2.cell? ⟨w.heap.size, 2 + k * 2 + 1, none⟩ = some (.string x.data) := by rw [← hx]; exact (hcells.at 0 rfl).at _ (pgCells_at p k hkl).2
      have f0 : w2.frozen? ⟨w.heap.size, 2 + k * 2, none⟩ = false := (hcells.at 0 rfl).frozen _
      have f1 : w2.frozen? ⟨w.heap.size, 2 + k * 2 + 1, none⟩ = false := (hcells.at 0 rfl).frozen _
      have HKl := Lib.hid hkl
      clear hcells hkl hx
      cases hq : sameV c.before x
      · rw [hq] at hne
        have HQ : Hid (sameV c.before (p.cells.getD c.slot.toNat emptyCl) = false) := by show _ = _; rw [HD.out]; exact hq
        clear hq
        go_wp2_with fail
        go_quiet (fail)
        have HF3 := Lib.hid HF2.out.drewN
        go_wp2_with (first | ((with_reducible refine wpList_build_v 27 (.agg (pgCells (newPg 0)).toArray) ?_ ?_); (exact HBu.out); simp only [Act.put, List.setIfInBounds_toArray, List.set_cons_zero, List.set_cons_succ]) | ((with_reducible refine wpList_store_ob 27 (.tmp 4) (w.heap.size + 1 + 1) (pgCells (newPg 0)) (pgCells (newPg 0)) 27 ?_ ?_ ?_ ?_ ?_ ?_ ?_); (exact rfl); (exact rfl); (exact (HF3.out _).get 2 rfl); (exact (info_pgc rfl)); (exact rfl); (exact (oneCell_pg _)); skip))
        refine bodyPost_ret (results_ob_tmp Try.results22 _ _ (w.heap.size + 1 + 1) (pgCells (newPg 0)) 27 _ rfl (((HF3.out _).row 2 rfl (pgCells (newPg 0))).get 2 rfl) HUP.out rfl (info_pgc rfl)) rfl ?_
        exact HJ.out (newPg 0) 20 _ (by unfold applyR; rw [if_neg HV.out, if_neg HPS.out, if_pos HQ.out]) (((HF3.out _).row 2 rfl (pgCells (newPg 0)))).old
      · rw [hq] at hne
        have HQ : Hid (¬ sameV c.before (p.cells.getD c.slot.toNat emptyCl) = false) := by show ¬ _; rw [HD.out, hq]; decide
        clear hq
        have HF4 : Hid (∀ q, Fr w [⟨w.heap.size, 27, pgCells ⟨p.id, p.lsn, p.cells.set k c.after⟩⟩, ⟨w.heap.size + 1, 29, chCells c⟩, ⟨w.heap.size + 1 + 1, 27, pgCells (newPg 0)⟩] (((w2.drewN q).setCell ⟨w.heap.size, 2 + k * 2, none⟩ (.bool c.after.set)).setCell ⟨w.heap.size, 2 + k * 2 + 1, none⟩ (.string c.after.data))) := fun q => by
          have : Fr w [⟨w.heap.size, 27, ((pgCells p).set (2 + k * 2) (.bool c.after.set)).set (2 + k * 2 + 1) (.string c.after.data)⟩, ⟨w.heap.size + 1, 29, chCells c⟩, ⟨w.heap.size + 1 + 1, 27, pgCells (newPg 0)⟩] (((w2.drewN q).setCell ⟨w.heap.size, 2 + k * 2, none⟩ (.bool c.after.set)).setCell ⟨w.heap.size, 2 + k * 2 + 1, none⟩ (.string c.after.data)) := ((HF2.out.drewN q).set 0 rfl (2 + k * 2) (.bool c.after.set)).set 0 rfl (2 + k * 2 + 1) (.string c.after.data)
          rw [pgCells_set p k c.after HKl.out] at this
          exact this
        have HPl2 : Hid ((p.cells.set k c.after).length = 16) := by show _ = _; rw [List.length_set]; exact HPl.out
        go_wp2_with fail
        go_quiet (fail)
        go_wp2_with (first | ((with_reducible refine wpList_load_ob 27 (.tmp 2) w.heap.size (pgCells ⟨p.id, p.lsn, p.cells.set k c.after⟩) 27 HUP.out ?_ ?_ ?_ ?_ ?_); (exact rfl); (exact (HF4.out _).get 0 rfl); (exact rfl); (exact (info_pgc HPl2.out)); simp only [Act.put, List.setIfInBounds_toArray, List.set_cons_zero, List.set_cons_succ]) | ((with_reducible refine wpList_store_ob 27 (.tmp 4) (w.heap.size + 1 + 1) (pgCells ⟨p.id, p.lsn, p.cells.set k c.after⟩) (pgCells (newPg 0)) 27 ?_ ?_ ?_ ?_ ?_ ?_ ?_); (exact rfl); (exact rfl); (exact (HF4.out _).get 2 rfl); (exact (info_pgc HPl2.out)); (exact (pgCells_len HPl2.out).symm); (exact (oneCell_pg _)); skip))
        refine bodyPost_ret (results_ob_tmp Try.results22 _ _ (w.heap.size + 1 + 1) (pgCells ⟨p.id, p.lsn, p.cells.set k c.after⟩) 27 _ rfl (((HF4.out _).row 2 rfl (pgCells ⟨p.id, p.lsn, p.cells.set k c.after⟩)).get 2 rfl) HUP.out rfl (info_pgc HPl2.out)) rfl ?_
        exact HJ.out ⟨p.id, p.lsn, p.cells.set k c.after⟩ 0 _ (by unfold applyR; rw [if_neg HV.out, if_neg HPS.out, if_neg HQ.out, HKn.out]) (((HF4.out _).row 2 rfl (pgCells ⟨p.id, p.lsn, p.cells.set k c.after⟩))).old
    · have HPS : Hid (sameV c.page p.id = false) := by
        show _ = _
        rw [Bool.eq_false_iff]
        intro h
        rw [sameV_iff] at h
        exact hps h
      have hpn : (c.page != p.id) = true := by simp; exact hps
      clear hps hcells
      go_wp2_with (first | ((with_reducible refine wpList_build_v 27 (.agg (pgCells (newPg 0)).toArray) ?_ ?_); (exact HBu.out); simp only [Act.put, List.setIfInBounds_toArray, List.set_cons_zero, List.set_cons_succ]) | ((with_reducible refine wpList_store_ob 27 (.tmp 4) (w.heap.size + 1 + 1) (pgCells (newPg 0)) (pgCells (newPg 0)) 27 ?_ ?_ ?_ ?_ ?_ ?_ ?_); (exact rfl); (exact rfl); (exact HF2.out.get 2 rfl); (exact (info_pgc rfl)); (exact rfl); (exact (oneCell_pg _)); skip))
      refine bodyPost_ret (results_ob_tmp Try.results22 _ _ (w.heap.size + 1 + 1) (pgCells (newPg 0)) 27 _ rfl ((HF2.out.row 2 rfl (pgCells (newPg 0))).get 2 rfl) HUP.out rfl (info_pgc rfl)) rfl ?_
      exact HJ.out (newPg 0) 6 _ (by unfold applyR; rw [if_neg HV.out, if_pos HPS.out]) ((HF2.out.row 2 rfl (pgCells (newPg 0)))).old
set_option maxHeartbeats 1000000 in
theorem rapply_any (p : Pg) (c : Chg) (w : World) (hp : Good p) (hc : GoodCh c) :
    Calls Try.prog 23 #[.agg (pgCells p).toArray, .agg (chCells c).toArray] w fun e w' => e = .returned (.tuple #[.agg (pgCells (applyR p c).1).toArray, .int .i64 (applyR p c).2]) ∧ Below w.heap.size w w' := by
  have HVc : Hid (∀ W, Calls Try.prog 16 #[.agg (chCells c).toArray] W fun e w' => e = .returned (.bool (chOkB c)) ∧ Below W.heap.size W w') := fun W => rvalid_ch c W hc.before hc.after
  have HNe : Hid (∀ W, Sem.run Try.prog (binOp .neq 24 (.agg #[.bool (p.cells.getD c.slot.toNat emptyCl).set, .string (p.cells.getD c.slot.toNat emptyCl).data]) (.agg #[.bool c.before.set, .string c.before.data])) W = .ok (.bool (!sameV c.before (p.cells.getD c.slot.toNat emptyCl))) W) := fun W => by rw [sameV_comm]; exact run_neq (equal_cl _ _ (good_cell hp _) hc.before) W
  have HBu : Hid (∀ W, Sem.run Try.prog (Instr.build 27 #[]) W = .ok (.agg (pgCells (newPg 0)).toArray) W) := fun W => by kernel_rfl
  have HPl := Lib.hid hp.len
  clear hp hc
  obtain ⟨fs, hu⟩ := under_ch
  have HU := Lib.hid hu
  clear hu
  obtain ⟨fp, hu⟩ := under_page
  have HUP := Lib.hid hu
  clear hu
  have h3 := (((Fr.start w).put 27 (pgCells p)).put 29 (chCells c)).put 27 (pgCells (newPg 0))
  simp only [World.size_alloc, List.nil_append, List.cons_append] at h3
  have HF := Lib.hid h3
  clear h3
  have HJ : Hid (∀ x n w', applyR p c = (x, n) → Below w.heap.size w w' → Ending.returned (.tuple #[.agg (pgCells x).toArray, .int .i64 n]) = .returned (.tuple #[.agg (pgCells (applyR p c).1).toArray, .int .i64 (applyR p c).2]) ∧ Below w.heap.size w w') := fun x n w' h hf => ⟨by rw [h], hf⟩
  go_enter Try.func23, Try.ntmps23
  go_wp2_with (first | ((with_reducible refine wpList_alloc_pg ?_); simp only [Act.put, List.setIfInBounds_toArray, List.set_cons_zero, List.set_cons_succ]) | ((with_reducible refine wpList_load_ob 29 (.tmp 3) (w.heap.size + 1) (chCells c) 29 HU.out ?_ ?_ ?_ ?_ ?_); (exact rfl); (exact HF.out.get 1 rfl); (exact rfl); (exact info_ch); simp only [Act.put, List.setIfInBounds_toArray, List.set_cons_zero, List.set_cons_succ]))
  refine (HVc.out _).mono ?_
  rintro e w2 ⟨rfl, hb2⟩
  have HF2 := Lib.hid (HF.out.calls hb2)
  clear hb2 HF
  cases hv : chOkB c
  · go_wp2_with (first | ((with_reducible refine wpList_build_v 27 (.agg (pgCells (newPg 0)).toArray) ?_ ?_); (exact HBu.out); simp only [Act.put, List.setIfInBounds_toArray, List.set_cons_zero, List.set_cons_succ]) | ((with_reducible refine wpList_store_ob 27 (.tmp 4) (w.heap.size + 1 + 1) (pgCells (newPg 0)) (pgCells (newPg 0)) 27 ?_ ?_ ?_ ?_ ?_ ?_ ?_); (exact rfl); (exact rfl); (exact HF2.out.get 2 rfl); (exact (info_pgc rfl)); (exact rfl); (exact (oneCell_pg _)); skip))
    refine bodyPost_ret (results_ob_tmp Try.results23 _ _ (w.heap.size + 1 + 1) (pgCells (newPg 0)) 27 _ rfl ((HF2.out.row 2 rfl (pgCells (newPg 0))).get 2 rfl) HUP.out rfl (info_pgc rfl)) rfl ?_
    exact HJ.out (newPg 0) 22 _ (by unfold applyR; rw [if_pos hv]) ((HF2.out.row 2 rfl (pgCells (newPg 0)))).old
  · have HV : Hid (¬ chOkB c = false) := by show ¬ _; rw [hv]; decide
    obtain ⟨_, _, s0, s1, _, _⟩ := chOk_parts hv
    obtain ⟨k, hk⟩ := Int.eq_ofNat_of_zero_le s0
    have hk16 : k < 16 := by omega
    have HKn : Hid (c.slot.toNat = k) := by show _ = _; omega
    have HK := Lib.hid hk
    clear hv s0 s1 hk
    have hcells := HF2.out
    have c0 : w2.cell? ⟨w.heap.size + 1, 0, none⟩ = some (.int .i64 c.page) := (hcells.at 1 rfl).at 0 rfl
    have c1 : w2.cell? ⟨w.heap.size + 1, 1, none⟩ = some (.int .i64 (k : Int)) := by rw [← HK.out]; exact (hcells.at 1 rfl).at 1 rfl
    have c2 : w2.cell? ⟨w.heap.size + 1, 2, none⟩ = some (.bool c.before.set) := (hcells.at 1 rfl).at 2 rfl
    have c3 : w2.cell? ⟨w.heap.size + 1, 3, none⟩ = some (.string c.before.data) := (hcells.at 1 rfl).at 3 rfl
    have c4 : w2.cell? ⟨w.heap.size + 1, 4, none⟩ = some (.bool c.after.set) := (hcells.at 1 rfl).at 4 rfl
    have c5 : w2.cell? ⟨w.heap.size + 1, 5, none⟩ = some (.string c.after.data) := (hcells.at 1 rfl).at 5 rfl
    have p0 : w2.cell? ⟨w.heap.size, 0, none⟩ = some (.int .i64 p.id) := (hcells.at 0 rfl).at 0 rfl
    by_cases hps : c.page = p.id
    · have HPS : Hid (¬ sameV c.page p.id = false) := by show ¬ _; rw [hps, sameV_self]; decide
      have hpn : (c.page != p.id) = false := by rw [hps]; simp
      clear hps
      have hkl : k < p.cells.length := by rw [HPl.out]; exact hk16
      obtain ⟨x, hx⟩ : ∃ x, p.cells[k] = x := ⟨_, rfl⟩
      have HD : Hid (p.cells.getD c.slot.toNat emptyCl = x) := by show _ = _; rw [HKn.out, getD_eq hkl]; exact hx
      have hne := HNe.out
      rw [HD.out] at hne
      have k0 : w2.cell? ⟨w.heap.size, 2 + k * 2, none⟩ = some (.bool x.set) := by rw [← hx]; exact (hcells.at 0 rfl).at _ (pgCells_at p k hkl).1
      have k1 : w2.cell? ⟨w.heap.size, 2 + k * 2 + 1, none⟩ = some (.string x.data) := by rw [← hx]; exact (hcells.at 0 rfl).at _ (pgCells_at p k hkl).2
      have f0 : w2.frozen? ⟨w.heap.size, 2 + k * 2, none⟩ = false := (hcells.at 0 rfl).frozen _
      have f1 : w2.frozen? ⟨w.heap.size, 2 + k * 2 + 1, none⟩ = false := (hcells.at 0 rfl).frozen _
      have HKl := Lib.hid hkl
      clear hcells hkl hx
      cases hq : sameV c.before x
      · rw [hq] at hne
        have HQ : Hid (sameV c.before (p.cells.getD c.slot.toNat emptyCl) = false) := by show _ = _; rw [HD.out]; exact hq
        clear hq
        go_wp2_with fail
        go_quiet (fail)
        have HF3 := Lib.hid HF2.out.drewN
        go_wp2_with (first | ((with_reducible refine wpList_build_v 27 (.agg (pgCells (newPg 0)).toArray) ?_ ?_); (exact HBu.out); simp only [Act.put, List.setIfInBounds_toArray, List.set_cons_zero, List.set_cons_succ]) | ((with_reducible refine wpList_store_ob 27 (.tmp 4) (w.heap.size + 1 + 1) (pgCells (newPg 0)) (pgCells (newPg 0)) 27 ?_ ?_ ?_ ?_ ?_ ?_ ?_); (exact rfl); (exact rfl); (exact (HF3.out _).get 2 rfl); (exact (info_pgc rfl)); (exact rfl); (exact (oneCell_pg _)); skip))
        refine bodyPost_ret (results_ob_tmp Try.results23 _ _ (w.heap.size + 1 + 1) (pgCells (newPg 0)) 27 _ rfl (((HF3.out _).row 2 rfl (pgCells (newPg 0))).get 2 rfl) HUP.out rfl (info_pgc rfl)) rfl ?_
        exact HJ.out (newPg 0) 20 _ (by unfold applyR; rw [if_neg HV.out, if_neg HPS.out, if_pos HQ.out]) (((HF3.out _).row 2 rfl (pgCells (newPg 0)))).old
      · rw [hq] at hne
        have HQ : Hid (¬ sameV c.before (p.cells.getD c.slot.toNat emptyCl) = false) := by show ¬ _; rw [HD.out, hq]; decide
        clear hq
        have HF4 : Hid (∀ q, Fr w [⟨w.heap.size, 27, pgCells ⟨p.id, p.lsn, p.cells.set k c.after⟩⟩, ⟨w.heap.size + 1, 29, chCells c⟩, ⟨w.heap.size + 1 + 1, 27, pgCells (newPg 0)⟩] (((w2.drewN q).setCell ⟨w.heap.size, 2 + k * 2, none⟩ (.bool c.after.set)).setCell ⟨w.heap.size, 2 + k * 2 + 1, none⟩ (.string c.after.data))) := fun q => by
          have : Fr w [⟨w.heap.size, 27, ((pgCells p).set (2 + k * 2) (.bool c.after.set)).set (2 + k * 2 + 1) (.string c.after.data)⟩, ⟨w.heap.size + 1, 29, chCells c⟩, ⟨w.heap.size + 1 + 1, 27, pgCells (newPg 0)⟩] (((w2.drewN q).setCell ⟨w.heap.size, 2 + k * 2, none⟩ (.bool c.after.set)).setCell ⟨w.heap.size, 2 + k * 2 + 1, none⟩ (.string c.after.data)) := ((HF2.out.drewN q).set 0 rfl (2 + k * 2) (.bool c.after.set)).set 0 rfl (2 + k * 2 + 1) (.string c.after.data)
          rw [pgCells_set p k c.after HKl.out] at this
          exact this
        have HPl2 : Hid ((p.cells.set k c.after).length = 16) := by show _ = _; rw [List.length_set]; exact HPl.out
        go_wp2_with fail
        go_quiet (fail)
        go_wp2_with (first | ((with_reducible refine wpList_load_ob 27 (.tmp 2) w.heap.size (pgCells ⟨p.id, p.lsn, p.cells.set k c.after⟩) 27 HUP.out ?_ ?_ ?_ ?_ ?_); (exact rfl); (exact (HF4.out _).get 0 rfl); (exact rfl); (exact (info_pgc HPl2.out)); simp only [Act.put, List.setIfInBounds_toArray, List.set_cons_zero, List.set_cons_succ]) | ((with_reducible refine wpList_store_ob 27 (.tmp 4) (w.heap.size + 1 + 1) (pgCells ⟨p.id, p.lsn, p.cells.set k c.after⟩) (pgCells (newPg 0)) 27 ?_ ?_ ?_ ?_ ?_ ?_ ?_); (exact rfl); (exact rfl); (exact (HF4.out _).get 2 rfl); (exact (info_pgc HPl2.out)); (exact (pgCells_len HPl2.out).symm); (exact (oneCell_pg _)); skip))
        refine bodyPost_ret (results_ob_tmp Try.results23 _ _ (w.heap.size + 1 + 1) (pgCells ⟨p.id, p.lsn, p.cells.set k c.after⟩) 27 _ rfl (((HF4.out _).row 2 rfl (pgCells ⟨p.id, p.lsn, p.cells.set k c.after⟩)).get 2 rfl) HUP.out rfl (info_pgc HPl2.out)) rfl ?_
        exact HJ.out ⟨p.id, p.lsn, p.cells.set k c.after⟩ 0 _ (by unfold applyR; rw [if_neg HV.out, if_neg HPS.out, if_neg HQ.out, HKn.out]) (((HF4.out _).row 2 rfl (pgCells ⟨p.id, p.lsn, p.cells.set k c.after⟩))).old
    · have HPS : Hid (sameV c.page p.id = false) := by
        show _ = _
        rw [Bool.eq_false_iff]
        intro h
        rw [sameV_iff] at h
        exact hps h
      have hpn : (c.page != p.id) = true := by simp; exact hps
      clear hps hcells
      go_wp2_with (first | ((with_reducible refine wpList_build_v 27 (.agg (pgCells (newPg 0)).toArray) ?_ ?_); (exact HBu.out); simp only [Act.put, List.setIfInBounds_toArray, List.set_cons_zero, List.set_cons_succ]) | ((with_reducible refine wpList_store_ob 27 (.tmp 4) (w.heap.size + 1 + 1) (pgCells (newPg 0)) (pgCells (newPg 0)) 27 ?_ ?_ ?_ ?_ ?_ ?_ ?_); (exact rfl); (exact rfl); (exact HF2.out.get 2 rfl); (exact (info_pgc rfl)); (exact rfl); (exact (oneCell_pg _)); skip))
      refine bodyPost_ret (results_ob_tmp Try.results23 _ _ (w.heap.size + 1 + 1) (pgCells (newPg 0)) 27 _ rfl ((HF2.out.row 2 rfl (pgCells (newPg 0))).get 2 rfl) HUP.out rfl (info_pgc rfl)) rfl ?_
      exact HJ.out (newPg 0) 6 _ (by unfold applyR; rw [if_neg HV.out, if_pos HPS.out]) ((HF2.out.row 2 rfl (pgCells (newPg 0)))).old
end Go.Proofs.Ytbadfcnkpeohfaa
