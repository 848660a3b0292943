/- the walk of Join, the program's and the reference's -/
import Derived.Test.YtbadfcnkpeohfaaChInv
namespace Go.Proofs.Ytbadfcnkpeohfaa
open Go.RowKit

set_option maxHeartbeats 1000000 in
theorem join_any (a b : Chg) (w : World) (ha : GoodCh a) (hb : GoodCh b) :
    Calls Try.prog 13 #[.agg (chCells a).toArray, .agg (chCells b).toArray] w fun e w' => e = .returned (.tuple #[.agg (chCells (joinR a b).1).toArray, .int .i64 (joinR a b).2]) ∧ Below w.heap.size w w' := by
  have HVa : Hid (∀ W, Calls Try.prog 15 #[.agg (chCells a).toArray] W fun e w' => e = .returned (.bool (chOkB a)) ∧ Below W.heap.size W w') := fun W => valid_ch a W ha.before ha.after
  have HVb : Hid (∀ W, Calls Try.prog 15 #[.agg (chCells b).toArray] W fun e w' => e = .returned (.bool (chOkB b)) ∧ Below W.heap.size W w') := fun W => valid_ch b W hb.before hb.after
  have HNe : Hid (∀ W, Sem.run Try.prog (binOp .neq 24 (.agg #[.bool b.before.set, .string b.before.data]) (.agg #[.bool a.after.set, .string a.after.data])) W = .ok (.bool (!sameV b.before a.after)) W) := fun W => run_neq (equal_cl b.before a.after hb.before ha.after) W
  have HBu : Hid (∀ W, Sem.run Try.prog (Instr.build 29 #[]) W = .ok (.agg (chCells chNil).toArray) W) := fun W => by kernel_rfl
  clear ha hb
  obtain ⟨fs, hu⟩ := under_ch
  have HU := Lib.hid hu
  clear hu
  have h3 := (((Fr.start w).put 29 (chCells a)).put 29 (chCells b)).put 29 (chCells chNil)
  simp only [World.size_alloc, List.nil_append, List.cons_append] at h3
  have HF := Lib.hid h3
  clear h3
  have HJ : Hid (∀ x n w', joinR a b = (x, n) → Below w.heap.size w w' → Ending.returned (.tuple #[.agg (chCells x).toArray, .int .i64 n]) = .returned (.tuple #[.agg (chCells (joinR a b).1).toArray, .int .i64 (joinR a b).2]) ∧ Below w.heap.size w w') := fun x n w' h hf => ⟨by rw [h], hf⟩
  go_enter Try.func13, Try.ntmps13
  go_wp2_with ((with_reducible refine wpList_load_ob 29 (.tmp 2) w.heap.size (chCells a) 29 HU.out ?_ ?_ ?_ ?_ ?_); (exact rfl); (exact HF.out.get 0 rfl); (exact rfl); (exact info_ch); simp only [Act.put, List.setIfInBounds_toArray, List.set_cons_zero, List.set_cons_succ])
  refine (HVa.out _).mono ?_
  rintro e w2 ⟨rfl, hb2⟩
  have HF2 := Lib.hid (HF.out.calls hb2)
  clear hb2 HF
  cases hva : chOkB a
  · go_wp2_with (first | ((with_reducible refine wpList_build_v 29 (.agg (chCells chNil).toArray) ?_ ?_); (exact HBu.out); simp only [Act.put, List.setIfInBounds_toArray, List.set_cons_zero, List.set_cons_succ]) | ((with_reducible refine wpList_store_ob 29 (.tmp 4) (w.heap.size + 1 + 1) (chCells chNil) (chCells chNil) 29 ?_ ?_ ?_ ?_ ?_ ?_ ?_); (exact rfl); (exact rfl); (exact HF2.out.get 2 rfl); (exact info_ch); (exact rfl); (exact (oneCell_ch _)); skip))
    refine bodyPost_ret (results_ob_tmp Try.results13 _ _ (w.heap.size + 1 + 1) (chCells chNil) 29 _ rfl ((HF2.out.row 2 rfl (chCells chNil)).get 2 rfl) HU.out rfl info_ch) rfl ?_
    exact HJ.out chNil 22 _ (by unfold joinR; rw [if_pos (by rw [hva]; rfl)]) ((HF2.out.row 2 rfl (chCells chNil))).old
  · go_wp2_with ((with_reducible refine wpList_load_ob_w 29 (.tmp 3) (w.heap.size + 1) (chCells b) 29 HU.out ?_ ?_ ?_ ?_ ?_ ?_); (exact rfl); (exact rfl); (exact HF2.out.get 1 rfl); (exact rfl); (exact info_ch); simp only [Act.put, List.setIfInBounds_toArray, List.set_cons_zero, List.set_cons_succ])
    refine (HVb.out _).mono ?_
    rintro e w3 ⟨rfl, hb3⟩
    have HF3 := Lib.hid (HF2.out.calls hb3)
    clear hb3 HF2
    cases hvb : chOkB b
    · go_wp2_with (first | ((with_reducible refine wpList_build_v 29 (.agg (chCells chNil).toArray) ?_ ?_); (exact HBu.out); simp only [Act.put, List.setIfInBounds_toArray, List.set_cons_zero, List.set_cons_succ]) | ((with_reducible refine wpList_store_ob 29 (.tmp 4) (w.heap.size + 1 + 1) (chCells chNil) (chCells chNil) 29 ?_ ?_ ?_ ?_ ?_ ?_ ?_); (exact rfl); (exact rfl); (exact HF3.out.get 2 rfl); (exact info_ch); (exact rfl); (exact (oneCell_ch _)); skip))
      refine bodyPost_ret (results_ob_tmp Try.results13 _ _ (w.heap.size + 1 + 1) (chCells chNil) 29 _ rfl ((HF3.out.row 2 rfl (chCells chNil)).get 2 rfl) HU.out rfl info_ch) rfl ?_
      exact HJ.out chNil 22 _ (by unfold joinR; rw [if_pos (by rw [hva, hvb]; rfl)]) ((HF3.out.row 2 rfl (chCells chNil))).old
    · have HV : Hid (¬ (chOkB a && chOkB b) = false) := by show ¬ _; rw [hva, hvb]; decide
      clear hva hvb
      have hcells := HF3.out
      have a0 : w3.cell? ⟨w.heap.size, 0, none⟩ = some (.int .i64 a.page) := (hcells.at 0 rfl).at 0 rfl
      have a1 : w3.cell? ⟨w.heap.size, 1, none⟩ = some (.int .i64 a.slot) := (hcells.at 0 rfl).at 1 rfl
      have a4 : w3.cell? ⟨w.heap.size, 4, none⟩ = some (.bool a.after.set) := (hcells.at 0 rfl).at 4 rfl
      have a5 : w3.cell? ⟨w.heap.size, 5, none⟩ = some (.string a.after.data) := (hcells.at 0 rfl).at 5 rfl
      have g4 : w3.frozen? ⟨w.heap.size, 4, none⟩ = false := (hcells.at 0 rfl).frozen 4
      have g5 : w3.frozen? ⟨w.heap.size, 5, none⟩ = false := (hcells.at 0 rfl).frozen 5
      have b0 : w3.cell? ⟨w.heap.size + 1, 0, none⟩ = some (.int .i64 b.page) := (hcells.at 1 rfl).at 0 rfl
      have b1 : w3.cell? ⟨w.heap.size + 1, 1, none⟩ = some (.int .i64 b.slot) := (hcells.at 1 rfl).at 1 rfl
      have b2 : w3.cell? ⟨w.heap.size + 1, 2, none⟩ = some (.bool b.before.set) := (hcells.at 1 rfl).at 2 rfl
      have b3 : w3.cell? ⟨w.heap.size + 1, 3, none⟩ = some (.string b.before.data) := (hcells.at 1 rfl).at 3 rfl
      have b4 : w3.cell? ⟨w.heap.size + 1, 4, none⟩ = some (.bool b.after.set) := (hcells.at 1 rfl).at 4 rfl
      have b5 : w3.cell? ⟨w.heap.size + 1, 5, none⟩ = some (.string b.after.data) := (hcells.at 1 rfl).at 5 rfl
      clear hcells
      by_cases hps : a.page = b.page ∧ a.slot = b.slot
      · obtain ⟨hp, hs⟩ := hps
        have HPS : Hid (¬ sameV (a.page, a.slot) (b.page, b.slot) = false) := by show ¬ _; rw [hp, hs, sameV_self]; decide
        have hpn : (a.page != b.page) = false := by rw [hp]; simp
        have hsn : (a.slot != b.slot) = false := by rw [hs]; simp
        clear hp hs
        have hne := HNe.out
        cases hq : sameV b.before a.after
        · go_wp2_with (first | ((with_reducible refine wpList_build_v 29 (.agg (chCells chNil).toArray) ?_ ?_); (exact HBu.out); simp only [Act.put, List.setIfInBounds_toArray, List.set_cons_zero, List.set_cons_succ]) | ((with_reducible refine wpList_store_ob 29 (.tmp 4) (w.heap.size + 1 + 1) (chCells chNil) (chCells chNil) 29 ?_ ?_ ?_ ?_ ?_ ?_ ?_); (exact rfl); (exact rfl); (exact HF3.out.get 2 rfl); (exact info_ch); (exact rfl); (exact (oneCell_ch _)); skip))
          refine bodyPost_ret (results_ob_tmp Try.results13 _ _ (w.heap.size + 1 + 1) (chCells chNil) 29 _ rfl ((HF3.out.row 2 rfl (chCells chNil)).get 2 rfl) HU.out rfl info_ch) rfl ?_
          exact HJ.out chNil 20 _ (by unfold joinR; rw [if_neg HV.out, if_neg HPS.out, if_pos hq]) ((HF3.out.row 2 rfl (chCells chNil))).old
        · have HQ := Lib.hid hq
          clear hne
          have hne : ∀ W, Sem.run Try.prog (binOp .neq 24 (.agg #[.bool b.before.set, .string b.before.data]) (.agg #[.bool a.after.set, .string a.after.data])) W = .ok (.bool false) W := fun W => by rw [HNe.out W, hq]; rfl
          clear hq
          have HF4 : Hid (Fr w [⟨w.heap.size, 29, chCells ⟨a.page, a.slot, a.before, b.after⟩⟩, ⟨w.heap.size + 1, 29, chCells b⟩, ⟨w.heap.size + 1 + 1, 29, chCells chNil⟩] ((w3.setCell ⟨w.heap.size, 4, none⟩ (.bool b.after.set)).setCell ⟨w.heap.size, 5, none⟩ (.string b.after.data))) := (HF3.out.set 0 rfl 4 (.bool b.after.set)).set 0 rfl 5 (.string b.after.data)
          go_wp2_with (first | ((with_reducible refine wpList_load_ob 29 (.tmp 2) w.heap.size (chCells ⟨a.page, a.slot, a.before, b.after⟩) 29 HU.out ?_ ?_ ?_ ?_ ?_); (exact rfl); (exact HF4.out.get 0 rfl); (exact rfl); (exact info_ch); simp only [Act.put, List.setIfInBounds_toArray, List.set_cons_zero, List.set_cons_succ]) | ((with_reducible refine wpList_store_ob 29 (.tmp 4) (w.heap.size + 1 + 1) (chCells ⟨a.page, a.slot, a.before, b.after⟩) (chCells chNil) 29 ?_ ?_ ?_ ?_ ?_ ?_ ?_); (exact rfl); (exact rfl); (exact HF4.out.get 2 rfl); (exact info_ch); (exact rfl); (exact (oneCell_ch _)); skip))
          refine bodyPost_ret (results_ob_tmp Try.results13 _ _ (w.heap.size + 1 + 1) (chCells ⟨a.page, a.slot, a.before, b.after⟩) 29 _ rfl ((HF4.out.row 2 rfl (chCells ⟨a.page, a.slot, a.before, b.after⟩)).get 2 rfl) HU.out rfl info_ch) rfl ?_
          exact HJ.out ⟨a.page, a.slot, a.before, b.after⟩ 0 _ (by unfold joinR; rw [if_neg HV.out, if_neg HPS.out, if_neg (by rw [HQ.out]; decide)]) ((HF4.out.row 2 rfl (chCells ⟨a.page, a.slot, a.before, b.after⟩))).old
      · have HPS : Hid (sameV (a.page, a.slot) (b.page, b.slot) = false) := by
          show _ = _
          rw [Bool.eq_false_iff]
          intro h
          rw [sameV_iff] at h
          exact hps ⟨(Prod.mk.inj h).1, (Prod.mk.inj h).2⟩
        have hor : a.page ≠ b.page ∨ a.slot ≠ b.slot := by omega
        clear hps
        by_cases hp : a.page = b.page
        · have hpn : (a.page != b.page) = false := by rw [hp]; simp
          have hsn : (a.slot != b.slot) = true := by simp; omega
          clear hp hor
          go_wp2_with (first | ((with_reducible refine wpList_build_v 29 (.agg (chCells chNil).toArray) ?_ ?_); (exact HBu.out); simp only [Act.put, List.setIfInBounds_toArray, List.set_cons_zero, List.set_cons_succ]) | ((with_reducible refine wpList_store_ob 29 (.tmp 4) (w.heap.size + 1 + 1) (chCells chNil) (chCells chNil) 29 ?_ ?_ ?_ ?_ ?_ ?_ ?_); (exact rfl); (exact rfl); (exact HF3.out.get 2 rfl); (exact info_ch); (exact rfl); (exact (oneCell_ch _)); skip))
          refine bodyPost_ret (results_ob_tmp Try.results13 _ _ (w.heap.size + 1 + 1) (chCells chNil) 29 _ rfl ((HF3.out.row 2 rfl (chCells chNil)).get 2 rfl) HU.out rfl info_ch) rfl ?_
          exact HJ.out chNil 6 _ (by unfold joinR; rw [if_neg HV.out, if_pos HPS.out]) ((HF3.out.row 2 rfl (chCells chNil))).old
        · have hpn : (a.page != b.page) = true := by simp; exact hp
          clear hp hor
          go_wp2_with (first | ((with_reducible refine wpList_build_v 29 (.agg (chCells chNil).toArray) ?_ ?_); (exact HBu.out); simp only [Act.put, List.setIfInBounds_toArray, List.set_cons_zero, List.set_cons_succ]) | ((with_reducible refine wpList_store_ob 29 (.tmp 4) (w.heap.size + 1 + 1) (chCells chNil) (chCells chNil) 29 ?_ ?_ ?_ ?_ ?_ ?_ ?_); (exact rfl); (exact rfl); (exact HF3.out.get 2 rfl); (exact info_ch); (exact rfl); (exact (oneCell_ch _)); skip))
          refine bodyPost_ret (results_ob_tmp Try.results13 _ _ (w.heap.size + 1 + 1) (chCells chNil) 29 _ rfl ((HF3.out.row 2 rfl (chCells chNil)).get 2 rfl) HU.out rfl info_ch) rfl ?_
          exact HJ.out chNil 6 _ (by unfold joinR; rw [if_neg HV.out, if_pos HPS.out]) ((HF3.out.row 2 rfl (chCells chNil))).old
set_option maxHeartbeats 1000000 in
theorem rjoin_any (a b : Chg) (w : World) (ha : GoodCh a) (hb : GoodCh b) :
    Calls Try.prog 14 #[.agg (chCells a).toArray, .agg (chCells b).toArray] w fun e w' => e = .returned (.tuple #[.agg (chCells (joinR a b).1).toArray, .int .i64 (joinR a b).2]) ∧ Below w.heap.size w w' := by
  have HVa : Hid (∀ W, Calls Try.prog 16 #[.agg (chCells a).toArray] W fun e w' => e = .returned (.bool (chOkB a)) ∧ Below W.heap.size W w') := fun W => rvalid_ch a W ha.before ha.after
  have HVb : Hid (∀ W, Calls Try.prog 16 #[.agg (chCells b).toArray] W fun e w' => e = .returned (.bool (chOkB b)) ∧ Below W.heap.size W w') := fun W => rvalid_ch b W hb.before hb.after
  have HNe : Hid (∀ W, Sem.run Try.prog (binOp .neq 24 (.agg #[.bool b.before.set, .string b.before.data]) (.agg #[.bool a.after.set, .string a.after.data])) W = .ok (.bool (!sameV b.before a.after)) W) := fun W => run_neq (equal_cl b.before a.after hb.before ha.after) W
  have HBu : Hid (∀ W, Sem.run Try.prog (Instr.build 29 #[]) W = .ok (.agg (chCells chNil).toArray) W) := fun W => by kernel_rfl
  clear ha hb
  obtain ⟨fs, hu⟩ := under_ch
  have HU := Lib.hid hu
  clear hu
  have h3 := (((Fr.start w).put 29 (chCells a)).put 29 (chCells b)).put 29 (chCells chNil)
  simp only [World.size_alloc, List.nil_append, List.cons_append] at h3
  have HF := Lib.hid h3
  clear h3
  have HJ : Hid (∀ x n w', joinR a b = (x, n) → Below w.heap.size w w' → Ending.returned (.tuple #[.agg (chCells x).toArray, .int .i64 n]) = .returned (.tuple #[.agg (chCells (joinR a b).1).toArray, .int .i64 (joinR a b).2]) ∧ Below w.heap.size w w') := fun x n w' h hf => ⟨by rw [h], hf⟩
  go_enter Try.func14, Try.ntmps14
  go_wp2_with ((with_reducible refine wpList_load_ob 29 (.tmp 2) w.heap.size (chCells a) 29 HU.out ?_ ?_ ?_ ?_ ?_); (exact rfl); (exact HF.out.get 0 rfl); (exact rfl); (exact info_ch); simp only [Act.put, List.setIfInBounds_toArray, List.set_cons_zero, List.set_cons_succ])
  refine (HVa.out _).mono ?_
  rintro e w2 ⟨rfl, hb2⟩
  have HF2 := Lib.hid (HF.out.calls hb2)
  clear hb2 HF
  cases hva : chOkB a
  · go_wp2_with (first | ((with_reducible refine wpList_build_v 29 (.agg (chCells chNil).toArray) ?_ ?_); (exact HBu.out); simp only [Act.put, List.setIfInBounds_toArray, List.set_cons_zero, List.set_cons_succ]) | ((with_reducible refine wpList_store_ob 29 (.tmp 4) (w.heap.size + 1 + 1) (chCells chNil) (chCells chNil) 29 ?_ ?_ ?_ ?_ ?_ ?_ ?_); (exact rfl); (exact rfl); (exact HF2.out.get 2 rfl); (exact info_ch); (exact rfl); (exact (oneCell_ch _)); skip))
    refine bodyPost_ret (results_ob_tmp Try.results14 _ _ (w.heap.size + 1 + 1) (chCells chNil) 29 _ rfl ((HF2.out.row 2 rfl (chCells chNil)).get 2 rfl) HU.out rfl info_ch) rfl ?_
    exact HJ.out chNil 22 _ (by unfold joinR; rw [if_pos (by rw [hva]; rfl)]) ((HF2.out.row 2 rfl (chCells chNil))).old
  · go_wp2_with ((with_reducible refine wpList_load_ob_w 29 (.tmp 3) (w.heap.size + 1) (chCells b) 29 HU.out ?_ ?_ ?_ ?_ ?_ ?_); (exact rfl); (exact rfl); (exact HF2.out.get 1 rfl); (exact rfl); (exact info_ch); simp only [Act.put, List.setIfInBounds_toArray, List.set_cons_zero, List.set_cons_succ])
    refine (HVb.out _).mono ?_
    rintro e w3 ⟨rfl, hb3⟩
    have HF3 := Lib.hid (HF2.out.calls hb3)
    clear hb3 HF2
    cases hvb : chOkB b
    · go_wp2_with (first | ((with_reducible refine wpList_build_v 29 (.agg (chCells chNil).toArray) ?_ ?_); (exact HBu.out); simp only [Act.put, List.setIfInBounds_toArray, List.set_cons_zero, List.set_cons_succ]) | ((with_reducible refine wpList_store_ob 29 (.tmp 4) (w.heap.size + 1 + 1) (chCells chNil) (chCells chNil) 29 ?_ ?_ ?_ ?_ ?_ ?_ ?_); (exact rfl); (exact rfl); (exact HF3.out.get 2 rfl); (exact info_ch); (exact rfl); (exact (oneCell_ch _)); skip))
      refine bodyPost_ret (results_ob_tmp Try.results14 _ _ (w.heap.size + 1 + 1) (chCells chNil) 29 _ rfl ((HF3.out.row 2 rfl (chCells chNil)).get 2 rfl) HU.out rfl info_ch) rfl ?_
      exact HJ.out chNil 22 _ (by unfold joinR; rw [if_pos (by rw [hva, hvb]; rfl)]) ((HF3.out.row 2 rfl (chCells chNil))).old
    · have HV : Hid (¬ (chOkB a && chOkB b) = false) := by show ¬ _; rw [hva, hvb]; decide
      clear hva hvb
      have hcells := HF3.out
      have a0 : w3.cell? ⟨w.heap.size, 0, none⟩ = some (.int .i64 a.page) := (hcells.at 0 rfl).at 0 rfl
      have a1 : w3.cell? ⟨w.heap.size, 1, none⟩ = some (.int .i64 a.slot) := (hcells.at 0 rfl).at 1 rfl
      have a4 : w3.cell? ⟨w.heap.size, 4, none⟩ = some (.bool a.after.set) := (hcells.at 0 rfl).at 4 rfl
      have a5 : w3.cell? ⟨w.heap.size, 5, none⟩ = some (.string a.after.data) := (hcells.at 0 rfl).at 5 rfl
      have g4 : w3.frozen? ⟨w.heap.size, 4, none⟩ = false := (hcells.at 0 rfl).frozen 4
      have g5 : w3.frozen? ⟨w.heap.size, 5, none⟩ = false := (hcells.at 0 rfl).frozen 5
      have b0 : w3.cell? ⟨w.heap.size + 1, 0, none⟩ = some (.int .i64 b.page) := (hcells.at 1 rfl).at 0 rfl
      have b1 : w3.cell? ⟨w.heap.size + 1, 1, none⟩ = some (.int .i64 b.slot) := (hcells.at 1 rfl).at 1 rfl
      have b2 : w3.cell? ⟨w.heap.size + 1, 2, none⟩ = some (.bool b.before.set) := (hcells.at 1 rfl).at 2 rfl
      have b3 : w3.cell? ⟨w.heap.size + 1, 3, none⟩ = some (.string b.before.data) := (hcells.at 1 rfl).at 3 rfl
      have b4 : w3.cell? ⟨w.heap.size + 1, 4, none⟩ = some (.bool b.after.set) := (hcells.at 1 rfl).at 4 rfl
      have b5 : w3.cell? ⟨w.heap.size + 1, 5, none⟩ = some (.string b.after.data) := (hcells.at 1 rfl).at 5 rfl
      clear hcells
      by_cases hps : a.page = b.page ∧ a.slot = b.slot
      · obtain ⟨hp, hs⟩ := hps
        have HPS : Hid (¬ sameV (a.page, a.slot) (b.page, b.slot) = false) := by show ¬ _; rw [hp, hs, sameV_self]; decide
        have hpn : (a.page != b.page) = false := by rw [hp]; simp
        have hsn : (a.slot != b.slot) = false := by rw [hs]; simp
        clear hp hs
        have hne := HNe.out
        cases hq : sameV b.before a.after
        · go_wp2_with (first | ((with_reducible refine wpList_build_v 29 (.agg (chCells chNil).toArray) ?_ ?_); (exact HBu.out); simp only [Act.put, List.setIfInBounds_toArray, List.set_cons_zero, List.set_cons_succ]) | ((with_reducible refine wpList_store_ob 29 (.tmp 4) (w.heap.size + 1 + 1) (chCells chNil) (chCells chNil) 29 ?_ ?_ ?_ ?_ ?_ ?_ ?_); (exact rfl); (exact rfl); (exact HF3.out.get 2 rfl); (exact info_ch); (exact rfl); (exact (oneCell_ch _)); skip))
          refine bodyPost_ret (results_ob_tmp Try.results14 _ _ (w.heap.size + 1 + 1) (chCells chNil) 29 _ rfl ((HF3.out.row 2 rfl (chCells chNil)).get 2 rfl) HU.out rfl info_ch) rfl ?_
          exact HJ.out chNil 20 _ (by unfold joinR; rw [if_neg HV.out, if_neg HPS.out, if_pos hq]) ((HF3.out.row 2 rfl (chCells chNil))).old
        · have HQ := Lib.hid hq
          clear hne
          have hne : ∀ W, Sem.run Try.prog (binOp .neq 24 (.agg #[.bool b.before.set, .string b.before.data]) (.agg #[.bool a.after.set, .string a.after.data])) W = .ok (.bool false) W := fun W => by rw [HNe.out W, hq]; rfl
          clear hq
          have HF4 : Hid (Fr w [⟨w.heap.size, 29, chCells ⟨a.page, a.slot, a.before, b.after⟩⟩, ⟨w.heap.size + 1, 29, chCells b⟩, ⟨w.heap.size + 1 + 1, 29, chCells chNil⟩] ((w3.setCell ⟨w.heap.size, 4, none⟩ (.bool b.after.set)).setCell ⟨w.heap.size, 5, none⟩ (.string b.after.data))) := (HF3.out.set 0 rfl 4 (.bool b.after.set)).set 0 rfl 5 (.string b.after.data)
          go_wp2_with (first | ((with_reducible refine wpList_load_ob 29 (.tmp 2) w.heap.size (chCells ⟨a.page, a.slot, a.before, b.after⟩) 29 HU.out ?_ ?_ ?_ ?_ ?_); (exact rfl); (exact HF4.out.get 0 rfl); (exact rfl); (exact info_ch); simp only [Act.put, List.setIfInBounds_toArray, List.set_cons_zero, List.set_cons_succ]) | ((with_reducible refine wpList_store_ob 29 (.tmp 4) (w.heap.size + 1 + 1) (chCells ⟨a.page, a.slot, a.before, b.after⟩) (chCells chNil) 29 ?_ ?_ ?_ ?_ ?_ ?_ ?_); (exact rfl); (exact rfl); (exact HF4.out.get 2 rfl); (exact info_ch); (exact rfl); (exact (oneCell_ch _)); skip))
          refine bodyPost_ret (results_ob_tmp Try.results14 _ _ (w.heap.size + 1 + 1) (chCells ⟨a.page, a.slot, a.before, b.after⟩) 29 _ rfl ((HF4.out.row 2 rfl (chCells ⟨a.page, a.slot, a.before, b.after⟩)).get 2 rfl) HU.out rfl info_ch) rfl ?_
          exact HJ.out ⟨a.page, a.slot, a.before, b.after⟩ 0 _ (by unfold joinR; rw [if_neg HV.out, if_neg HPS.out, if_neg (by rw [HQ.out]; decide)]) ((HF4.out.row 2 rfl (chCells ⟨a.page, a.slot, a.before, b.after⟩))).old
      · have HPS : Hid (sameV (a.page, a.slot) (b.page, b.slot) = false) := by
          show _ = _
          rw [Bool.eq_false_iff]
          intro h
          rw [sameV_iff] at h
          exact hps ⟨(Prod.mk.inj h).1, (Prod.mk.inj h).2⟩
        have hor : a.page ≠ b.page ∨ a.slot ≠ b.slot := by omega
        clear hps
        by_cases hp : a.page = b.page
        · have hpn : (a.page != b.page) = false := by rw [hp]; simp
          have hsn : (a.slot != b.slot) = true := by simp; omega
          clear hp hor
          go_wp2_with (first | ((with_reducible refine wpList_build_v 29 (.agg (chCells chNil).toArray) ?_ ?_); (exact HBu.out); simp only [Act.put, List.setIfInBounds_toArray, List.set_cons_zero, List.set_cons_succ]) | ((with_reducible refine wpList_store_ob 29 (.tmp 4) (w.heap.size + 1 + 1) (chCells chNil) (chCells chNil) 29 ?_ ?_ ?_ ?_ ?_ ?_ ?_); (exact rfl); (exact rfl); (exact HF3.out.get 2 rfl); (exact info_ch); (exact rfl); (exact (oneCell_ch _)); skip))
          refine bodyPost_ret (results_ob_tmp Try.results14 _ _ (w.heap.size + 1 + 1) (chCells chNil) 29 _ rfl ((HF3.out.row 2 rfl (chCells chNil)).get 2 rfl) HU.out rfl info_ch) rfl ?_
          exact HJ.out chNil 6 _ (by unfold joinR; rw [if_neg HV.out, if_pos HPS.out]) ((HF3.out.row 2 rfl (chCells chNil))).old
        · have hpn : (a.page != b.page) = true := by simp; exact hp
          clear hp hor
          go_wp2_with (first | ((with_reducible refine wpList_build_v 29 (.agg (chCells chNil).toArray) ?_ ?_); (exact HBu.out); simp only [Act.put, List.setIfInBounds_toArray, List.set_cons_zero, List.set_cons_succ]) | ((with_reducible refine wpList_store_ob 29 (.tmp 4) (w.heap.size + 1 + 1) (chCells chNil) (chCells chNil) 29 ?_ ?_ ?_ ?_ ?_ ?_ ?_); (exact rfl); (exact rfl); (exact HF3.out.get 2 rfl); (exact info_ch); (exact rfl); (exact (oneCell_ch _)); skip))
          refine bodyPost_ret (results_ob_tmp Try.results14 _ _ (w.heap.size + 1 + 1) (chCells chNil) 29 _ rfl ((HF3.out.row 2 rfl (chCells chNil)).get 2 rfl) HU.out rfl info_ch) rfl ?_
          exact HJ.out chNil 6 _ (by unfold joinR; rw [if_neg HV.out, if_pos HPS.out]) ((HF3.out.row 2 rfl (chCells chNil))).old
end Go.Proofs.Ytbadfcnkpeohfaa
