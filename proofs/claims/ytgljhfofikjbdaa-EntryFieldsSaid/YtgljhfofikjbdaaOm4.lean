/- texts of a claim, one after the other: the walk of the reference's check of an entry, the cursor of the reference: cell, the walk of the program's Decode, the walk of the reference's Decode, both Decodes answer the same, texts of lists of bytes, the bytes of an entry, and the walks of both Encodes, an entry is decoded from its bytes, and bytes that are decoded are those of the entry, the first bytes of an entry's bytes are too short, the choices of the drawing package: Int, the choices of the drawing package: Change, OddChange, texts of zeros -/
import Derived.Test.YtgljhfofikjbdaaOm3
import Derived.Test.YtgljhfofikjbdaaOm1
import Derived.Test.YtgljhfofikjbdaaOm2
import Derived.Deep.RegionWith
/- the walk of the reference's check of an entry -/
namespace Go.Proofs.Ytgljhfofikjbdaa
open Go.RowKit
set_option maxRecDepth 20000
set_option linter.unusedSimpArgs false
set_option linter.unusedVariables false

theorem shape_good {e : Ent} (h : GoodEn e) : GoodEn (shapeE e) := by
  have z : (Lit.int .i64 0).wf = true := by decide
  have zs : emptyS.size ≤ maxLen := by decide
  unfold shapeE
  split
  · exact ⟨h.lsn, h.kind, h.tx, h.ptx, h.ppg, z, h.ch, zs⟩
  split
  · exact ⟨h.lsn, h.kind, h.tx, h.ptx, h.ppg, h.ref, h.ch, zs⟩
  split
  · exact ⟨h.lsn, h.kind, h.tx, h.ptx, z, z, nil_good, zs⟩
  split
  · exact ⟨h.lsn, h.kind, z, z, z, z, nil_good, h.blob⟩
  split
  · exact ⟨h.lsn, h.kind, z, z, z, h.ref, ⟨h.ch.page, z, zs, zs⟩, zs⟩
  · exact ⟨h.lsn, h.kind, z, z, z, z, nil_good, zs⟩
set_option maxHeartbeats 8000000 in
theorem rvalid_en (e : Ent) (w : World) (he : GoodEn e) : Calls Try.prog 15 #[.agg (enCells e).toArray] w fun r w' => r = .returned (.bool (entOkB e)) ∧ Below w.heap.size w w' := by
  have HSh := Lib.hid (fun W => shape_any e W he)
  have HEq : Hid (∀ W, Sem.run Try.prog (binOp .eql 28 (.agg (enCells (shapeE e)).toArray) (.agg (enCells e).toArray)) W = .ok (.bool (sameV (shapeE e) e)) W) := fun W => run_eql (equal_en (shapeE e) e (shape_good he) he) W
  have HOk := Lib.hid (ent_ok_ref e)
  obtain ⟨fsHUE, huHUE⟩ := under_en
  have HUE := Lib.hid huHUE
  clear huHUE
  obtain ⟨X, hX⟩ : ∃ X, shapeE e = X := ⟨_, rfl⟩
  obtain ⟨B, hB⟩ : ∃ B, shapeB e = B := ⟨_, rfl⟩
  unfold ShPost at HSh
  rw [hX] at HSh HEq HOk
  rw [hB] at HSh HOk
  clear hX hB he
  obtain ⟨q, hq⟩ : ∃ q, sameV X e = q := ⟨_, rfl⟩
  rw [hq] at HEq HOk
  clear hq
  have h1 := (Hp.start w).put 28 (enCells e)
  have HS0 : Hid (Hp w [.ob w.heap.size 28 (enCells e)] (w.alloc (.cells (enCells e).toArray 28))) := h1
  clear h1
  go_enter Try.func15, Try.ntmps15
  go_upto_region 1 with (fail)
  have HS2 : Hid (Hp w [.ob (w.heap.size) 28 (enCells e)] (w.alloc (.cells (enCells e).toArray 28))) := HS0.out
  clear HS0
  generalize w.alloc (.cells (enCells e).toArray 28) = w3 at *
  go_wp2_with (first | ((with_reducible refine wpList_load_ob 28 (.tmp 1) (w.heap.size) (enCells e) 28 HUE.out ?_ ?_ ?_ ?_ ?_); (exact rfl); (exact (HS2.out).get 0 rfl); (exact rfl); (exact info_en); simp only [Act.put, List.setIfInBounds_toArray, List.set_cons_zero, List.set_cons_succ]))
  refine (HSh.out _).mono ?_
  rintro e w4 ⟨rfl, hb⟩
  have HS3 : Hid (Hp w [.ob (w.heap.size) 28 (enCells e)] w4) := (HS2.out).calls hb
  clear hb
  clear HS2
  clear HSh
  go_upto_region 2 with (first | ((with_reducible refine wpList_alloc_ob 28 (enCells enNil) ?_ ?_); (exact alloc_en); simp only [Act.put, List.setIfInBounds_toArray, List.set_cons_zero, List.set_cons_succ]) | ((with_reducible refine wpList_store_ob 28 (.tmp 3) (w4.heap.size) (enCells X) (enCells enNil) 28 ?_ ?_ ?_ ?_ ?_ ?_ ?_); (exact rfl); (exact rfl); (exact ((HS3.out).put 28 (enCells enNil)).get 1 rfl); (exact info_en); (exact rfl); (exact (oneCell_en _)); skip))
  have HS4 : Hid (Hp w [.ob (w.heap.size) 28 (enCells e), .ob (w4.heap.size) 28 (enCells X)] ((w4.alloc (.cells (enCells enNil).toArray 28)).setRow (w4.heap.size) (enCells X).toArray)) := ((HS3.out).put 28 (enCells enNil)).row 1 rfl (enCells X)
  clear HS3
  generalize ((w4.alloc (.cells (enCells enNil).toArray 28)).setRow (w4.heap.size) (enCells X).toArray) = w5 at *
  generalize w4.heap.size = B1 at *
  have HEqo := HEq.out
  clear HEq
  have c0 : w5.cell? ⟨(w.heap.size), 0, none⟩ = some (.int .i64 e.lsn) := (HS4.out).at 0 rfl 0 rfl
  have c3 : w5.cell? ⟨(w.heap.size), 3, none⟩ = some (.int .i64 e.ptx) := (HS4.out).at 0 rfl 3 rfl
  have c4 : w5.cell? ⟨(w.heap.size), 4, none⟩ = some (.int .i64 e.ppg) := (HS4.out).at 0 rfl 4 rfl
  have c5 : w5.cell? ⟨(w.heap.size), 5, none⟩ = some (.int .i64 e.ref) := (HS4.out).at 0 rfl 5 rfl
  cases B
  case false =>
    go_wp2_with (first | ((with_reducible refine wpList_load_ob_w 28 (.tmp 3) B1 (enCells X) 28 HUE.out ?_ ?_ ?_ ?_ ?_ ?_); (exact rfl); (exact rfl); (exact (HS4.out).get 1 rfl); (exact rfl); (exact info_en); simp only [Act.put, List.setIfInBounds_toArray, List.set_cons_zero, List.set_cons_succ]) | ((with_reducible refine wpList_load_ob_w 28 (.tmp 1) (w.heap.size) (enCells e) 28 HUE.out ?_ ?_ ?_ ?_ ?_ ?_); (exact rfl); (exact rfl); (exact (HS4.out).get 0 rfl); (exact rfl); (exact info_en); simp only [Act.put, List.setIfInBounds_toArray, List.set_cons_zero, List.set_cons_succ]))
    go_ret
    exact ⟨ret_bool (by rw [← HOk.out]; simp []), (HS4.out).old⟩
  case true =>
    cases q
    case false =>
      go_wp2_with (first | ((with_reducible refine wpList_load_ob_w 28 (.tmp 3) B1 (enCells X) 28 HUE.out ?_ ?_ ?_ ?_ ?_ ?_); (exact rfl); (exact rfl); (exact (HS4.out).get 1 rfl); (exact rfl); (exact info_en); simp only [Act.put, List.setIfInBounds_toArray, List.set_cons_zero, List.set_cons_succ]) | ((with_reducible refine wpList_load_ob_w 28 (.tmp 1) (w.heap.size) (enCells e) 28 HUE.out ?_ ?_ ?_ ?_ ?_ ?_); (exact rfl); (exact rfl); (exact (HS4.out).get 0 rfl); (exact rfl); (exact info_en); simp only [Act.put, List.setIfInBounds_toArray, List.set_cons_zero, List.set_cons_succ]))
      go_ret
      exact ⟨ret_bool (by rw [← HOk.out]; simp []), (HS4.out).old⟩
    case true =>
      by_cases a1 : 1 ≤ e.lsn
      case neg =>
        go_wp2_with (first | ((with_reducible refine wpList_load_ob_w 28 (.tmp 3) B1 (enCells X) 28 HUE.out ?_ ?_ ?_ ?_ ?_ ?_); (exact rfl); (exact rfl); (exact (HS4.out).get 1 rfl); (exact rfl); (exact info_en); simp only [Act.put, List.setIfInBounds_toArray, List.set_cons_zero, List.set_cons_succ]) | ((with_reducible refine wpList_load_ob_w 28 (.tmp 1) (w.heap.size) (enCells e) 28 HUE.out ?_ ?_ ?_ ?_ ?_ ?_); (exact rfl); (exact rfl); (exact (HS4.out).get 0 rfl); (exact rfl); (exact info_en); simp only [Act.put, List.setIfInBounds_toArray, List.set_cons_zero, List.set_cons_succ]))
        go_ret
        exact ⟨ret_bool (by rw [← HOk.out]; simp [show ¬ (1 ≤ e.lsn) by omega]), (HS4.out).old⟩
      case pos =>
        by_cases a2 : e.lsn ≤ 1099511627776
        case neg =>
          go_wp2_with (first | ((with_reducible refine wpList_load_ob_w 28 (.tmp 3) B1 (enCells X) 28 HUE.out ?_ ?_ ?_ ?_ ?_ ?_); (exact rfl); (exact rfl); (exact (HS4.out).get 1 rfl); (exact rfl); (exact info_en); simp only [Act.put, List.setIfInBounds_toArray, List.set_cons_zero, List.set_cons_succ]) | ((with_reducible refine wpList_load_ob_w 28 (.tmp 1) (w.heap.size) (enCells e) 28 HUE.out ?_ ?_ ?_ ?_ ?_ ?_); (exact rfl); (exact rfl); (exact (HS4.out).get 0 rfl); (exact rfl); (exact info_en); simp only [Act.put, List.setIfInBounds_toArray, List.set_cons_zero, List.set_cons_succ]))
          go_ret
          exact ⟨ret_bool (by rw [← HOk.out]; simp [a1, show ¬ (e.lsn ≤ 1099511627776) by omega]), (HS4.out).old⟩
        case pos =>
          go_wp2_with (first | ((with_reducible refine wpList_load_ob_w 28 (.tmp 3) B1 (enCells X) 28 HUE.out ?_ ?_ ?_ ?_ ?_ ?_); (exact rfl); (exact rfl); (exact (HS4.out).get 1 rfl); (exact rfl); (exact info_en); simp only [Act.put, List.setIfInBounds_toArray, List.set_cons_zero, List.set_cons_succ]) | ((with_reducible refine wpList_load_ob_w 28 (.tmp 1) (w.heap.size) (enCells e) 28 HUE.out ?_ ?_ ?_ ?_ ?_ ?_); (exact rfl); (exact rfl); (exact (HS4.out).get 0 rfl); (exact rfl); (exact info_en); simp only [Act.put, List.setIfInBounds_toArray, List.set_cons_zero, List.set_cons_succ]))
          refine (rbefore_f _ _ _).mono ?_
          rintro r w' ⟨rfl, rfl⟩
          cases q0 : befB e.ptx e.lsn
          case false =>
            go_wp2_with fail
            go_ret
            exact ⟨ret_bool (by rw [← HOk.out]; simp [a1, a2, q0]), (HS4.out).old⟩
          case true =>
            go_wp2_with fail
            refine (rbefore_f _ _ _).mono ?_
            rintro r w' ⟨rfl, rfl⟩
            cases q1 : befB e.ppg e.lsn
            case false =>
              go_wp2_with fail
              go_ret
              exact ⟨ret_bool (by rw [← HOk.out]; simp [a1, a2, q0, q1]), (HS4.out).old⟩
            case true =>
              go_wp2_with fail
              refine (rbefore_f _ _ _).mono ?_
              rintro r w' ⟨rfl, rfl⟩
              cases q2 : befB e.ref e.lsn
              case false =>
                go_wp2_with fail
                go_ret
                exact ⟨ret_bool (by rw [← HOk.out]; simp [a1, a2, q0, q1, q2]), (HS4.out).old⟩
              case true =>
                go_wp2_with fail
                go_ret
                exact ⟨ret_bool (by rw [← HOk.out]; simp [a1, a2, q0, q1, q2]), (HS4.out).old⟩
end Go.Proofs.Ytgljhfofikjbdaa
/- the cursor of the reference: cell -/
namespace Go.Proofs.Ytgljhfofikjbdaa
open Go.RowKit
set_option maxRecDepth 20000
set_option linter.unusedSimpArgs false
set_option linter.unusedVariables false

theorem rnumP_range {z : Int} {r r' : Cu} {n : Int} (h1 : 1 ≤ z) (h4 : z ≤ 4) (h : rnumP z r = (n, r')) : 0 ≤ n ∧ n < 4294967296 := by
  unfold rnumP at h
  split at h
  · split at h
    · obtain ⟨rfl, _⟩ := Prod.mk.inj h; omega
    · obtain ⟨rfl, _⟩ := Prod.mk.inj h
      have hl := leNum_lt r.s r.at_ z.toNat
      have hp : 256 ^ z.toNat ≤ 256 ^ 4 := Nat.pow_le_pow_right (by decide) (by omega)
      have h4 : (256 : Nat) ^ 4 = 4294967296 := by decide
      rw [IntWalk.wrap64_in _ ⟨by omega, by omega⟩]
      omega
  · obtain ⟨rfl, _⟩ := Prod.mk.inj h; omega
theorem rnumP_wf {z : Int} {r r' : Cu} {n : Int} (h : rnumP z r = (n, r')) : (Lit.int .i64 n).wf = true := by
  unfold rnumP at h
  split at h
  · split at h
    · obtain ⟨rfl, _⟩ := Prod.mk.inj h; decide
    · obtain ⟨rfl, _⟩ := Prod.mk.inj h; exact wrap_wf _
  · obtain ⟨rfl, _⟩ := Prod.mk.inj h; decide
theorem rbytesP_out {n : Int} {r r' : Cu} {d : ByteArray} (h : rbytesP n r = (d, r')) (hs : r.s.size ≤ 1000000000) : d.size ≤ 1000000000 := by
  unfold rbytesP at h
  split at h
  · split at h
    · obtain ⟨rfl, _⟩ := Prod.mk.inj h; exact Nat.zero_le _
    · obtain ⟨rfl, _⟩ := Prod.mk.inj h
      rw [ByteArray.size_extract]; omega
  · obtain ⟨rfl, _⟩ := Prod.mk.inj h; exact Nat.zero_le _
def rcellP (c : Cu) : Cl × Cu := if (rnumP 1 c).2.e = 0 ∧ ¬ (rnumP 1 c).1 = 255 then (if 12 < (rnumP 1 c).1 then (emptyCl, failC (rnumP 1 c).2 4) else (⟨true, (rbytesP (rnumP 1 c).1 (rnumP 1 c).2).1⟩, (rbytesP (rnumP 1 c).1 (rnumP 1 c).2).2)) else (emptyCl, (rnumP 1 c).2)
theorem rcellP_of {r r1 : Cu} {n : Int} (h : rnumP 1 r = (n, r1)) : rcellP r = if r1.e = 0 ∧ ¬ n = 255 then (if 12 < n then (emptyCl, failC r1 4) else (⟨true, (rbytesP n r1).1⟩, (rbytesP n r1).2)) else (emptyCl, r1) := by
  unfold rcellP; rw [h]
def CCellPost (D : Nat) (r : Cu) (w : World) (e : Ending) (w' : World) : Prop := ∃ c r', e = .returned (.agg (clCells c).toArray) ∧ Hid (rcellP r = (c, r')) ∧ Hid (CuOk r r' ∧ c.data.size ≤ 1000000000) ∧ CuTo D r' w w'
set_option maxHeartbeats 4000000 in
theorem ccell_any (D : Nat) (r : Cu) (w : World) (h : CuAt w D r) (hs : r.s.size ≤ 1000000000) (ha : r.at_ ≤ r.s.size) : Calls Try.prog 36 #[.pointer (some ⟨D, 0, none⟩)] w (CCellPost D r w) := by
  have HSz := Lib.hid hs
  have HAt := Lib.hid ha
  obtain ⟨fsHUL, huHUL⟩ := under_cell
  have HUL := Lib.hid huHUL
  clear huHUL
  have HBl : Hid (∀ d W, Sem.run Try.prog (Instr.build 24 #[(0, .bool true), (1, .string d)]) W = .ok (.agg (clCells ⟨true, d⟩).toArray) W) := fun d W => by kernel_rfl
  have HBe : Hid (∀ W, Sem.run Try.prog (Instr.build 24 #[]) W = .ok (.agg (clCells emptyCl).toArray) W) := fun W => by kernel_rfl
  have h1 := (Tn.start h).put 24 (clCells emptyCl)
  have HS0 : Hid (Tn w D 70 (cuCells r) [⟨w.heap.size, 24, clCells emptyCl⟩] (w.alloc (.cells #[.bool false, .string ⟨#[]⟩] 24))) := h1
  clear h h1 hs ha
  go_enter Try.func36, Try.ntmps36
  go_upto_region 1 with (fail)
  have HS2 : Hid (Tn w D 70 (cuCells r) [⟨w.heap.size, 24, clCells emptyCl⟩] (w.alloc (.cells #[.bool false, .string ⟨#[]⟩] 24))) := HS0.out
  clear HS0
  generalize w.alloc (.cells #[.bool false, .string ⟨#[]⟩] 24) = w3 at *
  go_wp2_with fail
  refine (cnumber_any D r 1 _ (HS2.out).here HSz.out HAt.out (by omega) (by omega)).mono ?_
  rintro e w4 ⟨n1, r1, rfl, HN1, HZ1, ht⟩
  have HS3 : Hid (Tn w D 70 (cuCells r1) [⟨w.heap.size, 24, clCells emptyCl⟩] w4) := (HS2.out).turns ht
  clear ht
  clear HS2
  go_upto_region 2 with (fail)
  obtain ⟨p0, p1⟩ := rnumP_range (by decide) (by decide) HN1.out
  have HSz1 : Hid (r1.s.size ≤ 1000000000 ∧ r1.at_ ≤ r1.s.size) := Lib.hid ⟨by rw [HZ1.out.s]; exact HSz.out, by rw [HZ1.out.s]; exact HZ1.out.at_ HAt.out⟩
  have hin : Ob.In ⟨D, 70, cuCells r1⟩ w4 := (HS3.out).here
  have d2 : w4.cell? ⟨D, 2, none⟩ = some (.int .i64 r1.e) := hin.at 2 rfl
  have f2 : w4.frozen? ⟨D, 2, none⟩ = false := hin.frozen 2
  clear hin
  by_cases q0 : r1.e = 0
  case neg =>
    have HR : Hid (rcellP r = (emptyCl, r1)) := Lib.hid (by rw [rcellP_of HN1.out, if_neg (fun h => q0 h.1)])
    have q0n : (r1.e != 0) = true := by simpa using q0
    clear q0 p0 p1
    go_wp2_with (first | ((with_reducible refine wpList_build_v (d := some 16) 24 (.agg (clCells emptyCl).toArray) ?_ ?_); (intro W; simp only [List.map_toArray, List.map_cons, List.map_nil]; exact HBe.out W); simp only [Act.put, List.setIfInBounds_toArray, List.set_cons_zero, List.set_cons_succ]) | ((with_reducible refine wpList_store_ob 24 (.tmp 2) (w.heap.size) (clCells emptyCl) (clCells emptyCl) 24 ?_ ?_ ?_ ?_ ?_ ?_ ?_); (exact rfl); (exact rfl); (exact (HS3.out).get 0 rfl); (exact info_cl); (exact rfl); (exact (oneCell_cl _)); skip))
    have HS4 : Hid (Tn w D 70 (cuCells r1) [⟨w.heap.size, 24, clCells emptyCl⟩] (w4.setRow (w.heap.size) (clCells emptyCl).toArray)) := (HS3.out).row 0 rfl (clCells emptyCl)
    clear HS3
    generalize (w4.setRow (w.heap.size) (clCells emptyCl).toArray) = w5 at *
    refine bodyPost_ret (results_ob Try.results36 _ _ (w.heap.size) (clCells emptyCl) 24 _ rfl ((HS4.out).get 0 rfl) HUL.out rfl info_cl) rfl ?_
    exact ⟨emptyCl, r1, rfl, HR, Lib.hid ⟨HZ1.out, by decide⟩, (HS4.out).turn⟩
  case pos =>
    have q0n : (r1.e != 0) = false := by rw [q0]; rfl
    by_cases q1 : n1 = 255
    case pos =>
      have HR : Hid (rcellP r = (emptyCl, r1)) := Lib.hid (by rw [rcellP_of HN1.out, if_neg (fun h => h.2 q1)])
      have q1b : (n1 == 255) = true := by rw [q1]; rfl
      clear q1 q0 p0 p1
      go_wp2_with (first | ((with_reducible refine wpList_build_v (d := some 16) 24 (.agg (clCells emptyCl).toArray) ?_ ?_); (intro W; simp only [List.map_toArray, List.map_cons, List.map_nil]; exact HBe.out W); simp only [Act.put, List.setIfInBounds_toArray, List.set_cons_zero, List.set_cons_succ]) | ((with_reducible refine wpList_store_ob 24 (.tmp 2) (w.heap.size) (clCells emptyCl) (clCells emptyCl) 24 ?_ ?_ ?_ ?_ ?_ ?_ ?_); (exact rfl); (exact rfl); (exact (HS3.out).get 0 rfl); (exact info_cl); (exact rfl); (exact (oneCell_cl _)); skip))
      have HS4 : Hid (Tn w D 70 (cuCells r1) [⟨w.heap.size, 24, clCells emptyCl⟩] (w4.setRow (w.heap.size) (clCells emptyCl).toArray)) := (HS3.out).row 0 rfl (clCells emptyCl)
      clear HS3
      generalize (w4.setRow (w.heap.size) (clCells emptyCl).toArray) = w5 at *
      refine bodyPost_ret (results_ob Try.results36 _ _ (w.heap.size) (clCells emptyCl) 24 _ rfl ((HS4.out).get 0 rfl) HUL.out rfl info_cl) rfl ?_
      exact ⟨emptyCl, r1, rfl, HR, Lib.hid ⟨HZ1.out, by decide⟩, (HS4.out).turn⟩
    case neg =>
      have q1b : (n1 == 255) = false := by rw [beq_eq_false_iff_ne]; exact q1
      by_cases q2 : 12 < n1
      case pos =>
        have HR : Hid (rcellP r = (emptyCl, failC r1 4)) := Lib.hid (by rw [rcellP_of HN1.out, if_pos ⟨q0, q1⟩, if_pos q2])
        clear q1 q0 p0 p1
        go_upto_region 6 with (fail)
        have ht := TurnTo.set (HS3.out).here 2 (.int .i64 4)
        have HS9 : Hid (Tn w D 70 (cuCells (failC r1 4)) [⟨w.heap.size, 24, clCells emptyCl⟩] (w4.setCell ⟨D, 2, none⟩ (.int .i64 4))) := (HS3.out).turns ht
        clear ht d2 f2
        have HS21 : Hid (Tn w D 70 (cuCells (failC r1 4)) [⟨w.heap.size, 24, clCells emptyCl⟩] (w4.setCell ⟨D, 2, none⟩ (.int .i64 4))) := HS9.out
        clear HS9
        generalize w4.setCell ⟨D, 2, none⟩ (.int .i64 4) = w5 at *
        go_wp2_with (first | ((with_reducible refine wpList_build_v (d := some 23) 24 (.agg (clCells emptyCl).toArray) ?_ ?_); (intro W; simp only [List.map_toArray, List.map_cons, List.map_nil]; exact HBe.out W); simp only [Act.put, List.setIfInBounds_toArray, List.set_cons_zero, List.set_cons_succ]) | ((with_reducible refine wpList_store_ob 24 (.tmp 2) (w.heap.size) (clCells emptyCl) (clCells emptyCl) 24 ?_ ?_ ?_ ?_ ?_ ?_ ?_); (exact rfl); (exact rfl); (exact (HS21.out).get 0 rfl); (exact info_cl); (exact rfl); (exact (oneCell_cl _)); skip))
        have HS22 : Hid (Tn w D 70 (cuCells (failC r1 4)) [⟨w.heap.size, 24, clCells emptyCl⟩] (w5.setRow (w.heap.size) (clCells emptyCl).toArray)) := (HS21.out).row 0 rfl (clCells emptyCl)
        clear HS21
        generalize (w5.setRow (w.heap.size) (clCells emptyCl).toArray) = w6 at *
        refine bodyPost_ret (results_ob Try.results36 _ _ (w.heap.size) (clCells emptyCl) 24 _ rfl ((HS22.out).get 0 rfl) HUL.out rfl info_cl) rfl ?_
        exact ⟨emptyCl, failC r1 4, rfl, HR, Lib.hid ⟨⟨HZ1.out.s, HZ1.out.at_⟩, by decide⟩, (HS22.out).turn⟩
      case neg =>
        have HR : Hid (∀ d r2, rbytesP n1 r1 = (d, r2) → rcellP r = (⟨true, d⟩, r2)) := Lib.hid (fun d r2 h => by rw [rcellP_of HN1.out, if_pos ⟨q0, q1⟩, if_neg q2, h])
        clear q1 q0
        go_wp2_with fail
        refine (cbytes_any D r1 n1 _ (HS3.out).here HSz1.out.1 HSz1.out.2 p0).mono ?_
        rintro e w5 ⟨d, r2, rfl, HN2, HZ2, ht⟩
        have HS4 : Hid (Tn w D 70 (cuCells r2) [⟨w.heap.size, 24, clCells emptyCl⟩] w5) := (HS3.out).turns ht
        clear ht
        clear HS3
        go_wp2_with (first | ((with_reducible refine wpList_build_v (d := some 27) 24 (.agg (clCells ⟨true, d⟩).toArray) ?_ ?_); (intro W; simp only [List.map_toArray, List.map_cons, List.map_nil]; exact HBl.out d W); simp only [Act.put, List.setIfInBounds_toArray, List.set_cons_zero, List.set_cons_succ]) | ((with_reducible refine wpList_store_ob 24 (.tmp 2) (w.heap.size) (clCells ⟨true, d⟩) (clCells emptyCl) 24 ?_ ?_ ?_ ?_ ?_ ?_ ?_); (exact rfl); (exact rfl); (exact (HS4.out).get 0 rfl); (exact info_cl); (exact rfl); (exact (oneCell_cl _)); skip))
        have HS5 : Hid (Tn w D 70 (cuCells r2) [⟨w.heap.size, 24, clCells ⟨true, d⟩⟩] (w5.setRow (w.heap.size) (clCells ⟨true, d⟩).toArray)) := (HS4.out).row 0 rfl (clCells ⟨true, d⟩)
        clear HS4
        generalize (w5.setRow (w.heap.size) (clCells ⟨true, d⟩).toArray) = w6 at *
        refine bodyPost_ret (results_ob Try.results36 _ _ (w.heap.size) (clCells ⟨true, d⟩) 24 _ rfl ((HS5.out).get 0 rfl) HUL.out rfl info_cl) rfl ?_
        exact ⟨⟨true, d⟩, r2, rfl, Lib.hid (HR.out _ _ HN2.out), Lib.hid ⟨HZ1.out.trans HZ2.out, rbytesP_out HN2.out HSz1.out.1⟩, (HS5.out).turn⟩
end Go.Proofs.Ytgljhfofikjbdaa
/- the walk of the program's Decode -/
namespace Go.Proofs.Ytgljhfofikjbdaa
open Go.RowKit
set_option maxRecDepth 20000
set_option linter.unusedSimpArgs false
set_option linter.unusedVariables false

noncomputable def decP (s : ByteArray) : Ent × Int :=
  if (enRd ⟨s, 0⟩).2.err = 0 then (if (enRd ⟨s, 0⟩).2.rest.size = 0 then (if entOkB (enRd ⟨s, 0⟩).1 = true then ((enRd ⟨s, 0⟩).1, 0) else (enNil, 12)) else (enNil, 4)) else (enNil, (enRd ⟨s, 0⟩).2.err)
theorem decP_of {s : ByteArray} {x : Ent} {r : Rs} (h : enRd ⟨s, 0⟩ = (x, r)) : decP s = if r.err = 0 then (if r.rest.size = 0 then (if entOkB x = true then (x, 0) else (enNil, 12)) else (enNil, 4)) else (enNil, r.err) := by unfold decP; rw [h]
def DecPost (d : Ent × Int) (w : World) (e : Ending) (w' : World) : Prop := e = .returned (.tuple #[.agg (enCells d.1).toArray, .int .i64 d.2]) ∧ Hid (GoodEn d.1) ∧ Below w.heap.size w w'
theorem DecPost.mk {d : Ent × Int} {x : Ent} {n : Int} {w w' : World} (h : d = (x, n)) (hg : GoodEn x) (k : Below w.heap.size w w') : DecPost d w (.returned (.tuple #[.agg (enCells x).toArray, .int .i64 n])) w' := by
  subst h; exact ⟨rfl, Lib.hid hg, k⟩
theorem build_rd (s : ByteArray) (W : World) : Sem.run Try.prog (Instr.build 67 #[(0, .string s)]) W = .ok (.agg (rdCells ⟨s, 0⟩).toArray) W := by kernel_rfl
set_option maxHeartbeats 8000000 in
theorem decode_any (s : ByteArray) (w : World) (hs : s.size ≤ 1000000000) : Calls Try.prog 20 #[.string s] w (DecPost (decP s) w) := by
  have HSz := Lib.hid hs
  obtain ⟨d, hd⟩ : ∃ d, decP s = d := ⟨_, rfl⟩
  have HD := Lib.hid hd
  rw [hd]
  clear hd
  have h1 := (Hp.start w).put 28 (enCells enNil)
  have HS0 : Hid (Hp w [.ob w.heap.size 28 (enCells enNil)] (w.alloc (.cells #[.int .i64 0, .int .i64 0, .int .i64 0, .int .i64 0, .int .i64 0, .int .i64 0, .int .i64 0, .int .i64 0, .bool false, .string ⟨#[]⟩, .bool false, .string ⟨#[]⟩, .string ⟨#[]⟩] 28))) := h1
  clear h1 hs
  obtain ⟨fsHUE, huHUE⟩ := under_en
  have HUE := Lib.hid huHUE
  clear huHUE
  obtain ⟨fsHUD, huHUD⟩ := under_rd
  have HUD := Lib.hid huHUD
  clear huHUD
  go_enter Try.func20, Try.ntmps20
  go_upto_region 1 with (fail)
  have HS2 : Hid (Hp w [.ob (w.heap.size) 28 (enCells enNil)] (w.alloc (.cells #[.int .i64 0, .int .i64 0, .int .i64 0, .int .i64 0, .int .i64 0, .int .i64 0, .int .i64 0, .int .i64 0, .bool false, .string ⟨#[]⟩, .bool false, .string ⟨#[]⟩, .string ⟨#[]⟩] 28))) := HS0.out
  clear HS0
  generalize w.alloc (.cells #[.int .i64 0, .int .i64 0, .int .i64 0, .int .i64 0, .int .i64 0, .int .i64 0, .int .i64 0, .int .i64 0, .bool false, .string ⟨#[]⟩, .bool false, .string ⟨#[]⟩, .string ⟨#[]⟩] 28) = w3 at *
  go_upto_region 2 with (first | ((with_reducible refine wpList_build_v (d := some 7) 67 (.agg (rdCells ⟨s, 0⟩).toArray) ?_ ?_); (intro W; simp only [List.map_toArray, List.map_cons, List.map_nil]; exact build_rd s W); simp only [Act.put, List.setIfInBounds_toArray, List.set_cons_zero, List.set_cons_succ]) | ((with_reducible refine wpList_alloc_ob 67 (rdCells rdNil) ?_ ?_); (exact alloc_rd); simp only [Act.put, List.setIfInBounds_toArray, List.set_cons_zero, List.set_cons_succ]) | ((with_reducible refine wpList_store_ob 67 (.tmp 4) (w3.heap.size) (rdCells ⟨s, 0⟩) (rdCells rdNil) 67 ?_ ?_ ?_ ?_ ?_ ?_ ?_); (exact rfl); (exact rfl); (exact ((HS2.out).put 67 (rdCells rdNil)).get 1 rfl); (exact info_rd); (exact rfl); (exact (oneCell_rd _)); skip))
  have HS3 : Hid (Hp w [.ob (w.heap.size) 28 (enCells enNil), .ob (w3.heap.size) 67 (rdCells ⟨s, 0⟩)] ((w3.alloc (.cells (rdCells rdNil).toArray 67)).setRow (w3.heap.size) (rdCells ⟨s, 0⟩).toArray)) := ((HS2.out).put 67 (rdCells rdNil)).row 1 rfl (rdCells ⟨s, 0⟩)
  clear HS2
  generalize ((w3.alloc (.cells (rdCells rdNil).toArray 67)).setRow (w3.heap.size) (rdCells ⟨s, 0⟩).toArray) = w4 at *
  generalize w3.heap.size = B1 at *
  go_wp2_with fail
  refine (entryR_any B1 ⟨s, 0⟩ _ ((HS3.out).get 1 rfl) HSz.out).mono ?_
  rintro e w5 ⟨x, r1, rfl, HN, HZ, ht⟩
  have HS4 : Hid (Hp w [.ob (w.heap.size) 28 (enCells enNil), .ob B1 67 (rdCells r1)] w5) := (HS3.out).turned 1 rfl ht
  clear ht
  clear HS3
  go_upto_region 3 with (first | ((with_reducible refine wpList_alloc_ob 28 (enCells enNil) ?_ ?_); (exact alloc_en); simp only [Act.put, List.setIfInBounds_toArray, List.set_cons_zero, List.set_cons_succ]) | ((with_reducible refine wpList_store_ob 28 (.tmp 5) (w5.heap.size) (enCells x) (enCells enNil) 28 ?_ ?_ ?_ ?_ ?_ ?_ ?_); (exact rfl); (exact rfl); (exact ((HS4.out).put 28 (enCells enNil)).get 2 rfl); (exact info_en); (exact rfl); (exact (oneCell_en _)); skip))
  have HS5 : Hid (Hp w [.ob (w.heap.size) 28 (enCells enNil), .ob B1 67 (rdCells r1), .ob (w5.heap.size) 28 (enCells x)] ((w5.alloc (.cells (enCells enNil).toArray 28)).setRow (w5.heap.size) (enCells x).toArray)) := ((HS4.out).put 28 (enCells enNil)).row 2 rfl (enCells x)
  clear HS4
  generalize ((w5.alloc (.cells (enCells enNil).toArray 28)).setRow (w5.heap.size) (enCells x).toArray) = w6 at *
  generalize w5.heap.size = B2 at *
  have c0 : w6.cell? ⟨B1, 0, none⟩ = some (.string r1.rest) := (HS5.out).at 1 rfl 0 rfl
  have c1 : w6.cell? ⟨B1, 1, none⟩ = some (.int .i64 r1.err) := (HS5.out).at 1 rfl 1 rfl
  by_cases q1 : r1.err = 0
  case neg =>
    have HR : Hid (d = (enNil, r1.err)) := Lib.hid (by rw [← HD.out, decP_of HN.out, if_neg q1])
    have q1b : (r1.err == 0) = false := by rw [beq_eq_false_iff_ne]; exact q1
    have q1n : (r1.err != 0) = true := by simpa using q1
    clear q1
    go_upto_region 4 with (fail)
    clear c0
    refine wp_region_held_drew (S := fun w' => Hold w.heap.size [.ob B1 67 (rdCells r1)] w') (by kernel_rfl) ((HS5.out).drew.pick [1] rfl) (fun hHeld => ?_)
    refine wpAnyH_take (i := 0) (oi := { dst := some 13, op := Op.build 28 #[], type := 28, pos := "entry.go:118", after := #[], guard := none }) rfl (by kernel_rfl) (by kernel_rfl) (by kernel_rfl) (fun _ _ _ h => h) (yieldsIf_build_v (by rfl) 28 (.agg (enCells enNil).toArray) rfl (fun W => by simp only [List.map_toArray, List.map_cons, List.map_nil]; exact build_nil W)) hHeld ?_
    try simp only [Act.put, List.setIfInBounds_toArray, List.set_cons_zero, List.set_cons_succ]
    refine wpAnyH_take (i := 1) (oi := { dst := some 14, op := Op.fieldAddr 67 (Operand.tmp 4) 1, type := 0, pos := "entry.go:118", after := #[{ on := 3, ground := Ground.gcOnly Departure.lateStores }], guard := none }) (v := ?q2v) rfl (by kernel_rfl) (by kernel_rfl) (by kernel_rfl) (fun _ _ _ h => h) (Or.inl ⟨by rfl, ?q2h⟩) hHeld ?q2r
    case q2h => (intro wq hSw; clear hSw; go_simp; try with_reducible rfl)
    try simp only [Act.put, List.setIfInBounds_toArray, List.set_cons_zero, List.set_cons_succ]
    refine wpAnyH_take (i := 2) (oi := { dst := some 15, op := Op.load 35 (Operand.tmp 14), type := 35, pos := "entry.go:118", after := #[{ on := 1, ground := Ground.data }, { on := 3, ground := Ground.gcOnly Departure.lateStores }], guard := none }) (v := .int .i64 r1.err) rfl (by kernel_rfl) (by kernel_rfl) (by kernel_rfl) (fun _ _ _ h => h) (Or.inl ⟨by rfl, ?q3h⟩) hHeld ?q3r
    case q3h => (intro wq hSw; have lq := hSw.at 0 rfl 1 (v := .int .i64 r1.err) rfl; clear hSw; go_simp; try with_reducible rfl)
    try simp only [Act.put, List.setIfInBounds_toArray, List.set_cons_zero, List.set_cons_succ]
    refine wpAnyH_ready (rs := [3]) (by kernel_rfl) (by simp) ?_
    refine AllReadyH.cons (o := { dst := none, op := Op.store 28 (Operand.tmp 2) (Operand.tmp 13), type := 0, pos := "entry.go:118", after := #[{ on := 0, ground := Ground.data }, { on := 0, ground := Ground.phase }, { on := 1, ground := Ground.textOnly Departure.lateStores }, { on := 2, ground := Ground.textOnly Departure.lateStores }], guard := none }) rfl (fun K hK => ?_) (AllReadyH.nil)
    rw [if_pos (by rfl)]
    refine wp_store_ob 28 (.tmp 2) (.tmp 13) (w.heap.size) (enCells enNil) (enCells enNil) 28 rfl rfl rfl rfl (((HS5.out).drew).get 0 rfl) (info_en) (rfl) ((oneCell_en _)) ?_
    have HS6 : Hid (Hp w [.ob (w.heap.size) 28 (enCells enNil), .ob B1 67 (rdCells r1), .ob B2 28 (enCells x)] (w6.drew.setRow (w.heap.size) (enCells enNil).toArray)) := ((HS5.out).drew).row 0 rfl (enCells enNil)
    refine hK.out _ _ (HS6.out.pick [1] rfl) (fun hHeld => ?_)
    clear hK K
    generalize (w6.drew.setRow (w.heap.size) (enCells enNil).toArray) = w7 at *
    try simp only [Act.put, List.setIfInBounds_toArray, List.set_cons_zero, List.set_cons_succ]
    refine wpAnyH_take (i := 4) (oi := { dst := some 3, op := Op.assign (Operand.tmp 15), type := 35, pos := "entry.go:118", after := #[{ on := 2, ground := Ground.data }, { on := 3, ground := Ground.chain }, { on := 0, ground := Ground.phase }, { on := 1, ground := Ground.phase }, { on := 2, ground := Ground.phase }, { on := 3, ground := Ground.phase }], guard := none }) (v := ?q4v) rfl (by kernel_rfl) (by kernel_rfl) (by kernel_rfl) (fun _ _ _ h => h) (Or.inl ⟨by rfl, ?q4h⟩) hHeld ?q4r
    case q4h => (intro wq hSw; clear hSw; go_simp; try with_reducible rfl)
    try simp only [Act.put, List.setIfInBounds_toArray, List.set_cons_zero, List.set_cons_succ]
    refine wpAnyH_done (by kernel_rfl) ?_ _
    go_wp2_with fail
    refine bodyPost_ret (results_ob_tmp Try.results20 _ _ (w.heap.size) (enCells enNil) 28 _ rfl ((HS6.out).get 0 rfl) HUE.out rfl info_en) rfl ?_
    exact DecPost.mk HR.out enNil_good (HS6.out).old
  case pos =>
    have q1b : (r1.err == 0) = true := by rw [q1]; rfl
    have q1n : (r1.err != 0) = false := by rw [q1]; rfl
    by_cases q2 : r1.rest.size = 0
    case neg =>
      have HR : Hid (d = (enNil, 4)) := Lib.hid (by rw [← HD.out, decP_of HN.out, if_pos q1, if_neg q2])
      have q2b : r1.rest.toList.isEmpty = false := by rw [isEmpty_dec]; simpa using q2
      clear q1 q2
      go_wp2_with (first | ((with_reducible refine wpList_build_v (d := some 20) 28 (.agg (enCells enNil).toArray) ?_ ?_); (intro W; simp only [List.map_toArray, List.map_cons, List.map_nil]; exact build_nil W); simp only [Act.put, List.setIfInBounds_toArray, List.set_cons_zero, List.set_cons_succ]) | ((with_reducible refine wpList_store_ob 28 (.tmp 2) (w.heap.size) (enCells enNil) (enCells enNil) 28 ?_ ?_ ?_ ?_ ?_ ?_ ?_); (exact rfl); (exact rfl); (exact (HS5.out).get 0 rfl); (exact info_en); (exact rfl); (exact (oneCell_en _)); skip))
      have HS6 : Hid (Hp w [.ob (w.heap.size) 28 (enCells enNil), .ob B1 67 (rdCells r1), .ob B2 28 (enCells x)] (w6.setRow (w.heap.size) (enCells enNil).toArray)) := (HS5.out).row 0 rfl (enCells enNil)
      clear HS5
      generalize (w6.setRow (w.heap.size) (enCells enNil).toArray) = w7 at *
      refine bodyPost_ret (results_ob_tmp Try.results20 _ _ (w.heap.size) (enCells enNil) 28 _ rfl ((HS6.out).get 0 rfl) HUE.out rfl info_en) rfl ?_
      exact DecPost.mk HR.out enNil_good (HS6.out).old
    case pos =>
      have q2b : r1.rest.toList.isEmpty = true := by rw [isEmpty_dec]; simpa using q2
      have HR0 : Hid (d = if entOkB x = true then (x, 0) else (enNil, 12)) := Lib.hid (by rw [← HD.out, decP_of HN.out, if_pos q1, if_pos q2])
      have HV := Lib.hid (fun W => valid_en x W HZ.out.2)
      clear q1 q2
      cases hv : entOkB x
      case false =>
        have HR : Hid (d = (enNil, 12)) := Lib.hid (by rw [HR0.out, hv]; rfl)
        rw [hv] at HV
        clear hv
        go_wp2_with (first | ((with_reducible refine wpList_load_ob 28 (.tmp 5) B2 (enCells x) 28 HUE.out ?_ ?_ ?_ ?_ ?_); (exact rfl); (exact (HS5.out).get 2 rfl); (exact rfl); (exact info_en); simp only [Act.put, List.setIfInBounds_toArray, List.set_cons_zero, List.set_cons_succ]))
        refine (HV.out _).mono ?_
        rintro e w7 ⟨rfl, hb⟩
        have HS6 : Hid (Hp w [.ob (w.heap.size) 28 (enCells enNil), .ob B1 67 (rdCells r1), .ob B2 28 (enCells x)] w7) := (HS5.out).calls hb
        clear hb
        clear HS5
        go_wp2_with (first | ((with_reducible refine wpList_build_v (d := some 25) 28 (.agg (enCells enNil).toArray) ?_ ?_); (intro W; simp only [List.map_toArray, List.map_cons, List.map_nil]; exact build_nil W); simp only [Act.put, List.setIfInBounds_toArray, List.set_cons_zero, List.set_cons_succ]) | ((with_reducible refine wpList_store_ob 28 (.tmp 2) (w.heap.size) (enCells enNil) (enCells enNil) 28 ?_ ?_ ?_ ?_ ?_ ?_ ?_); (exact rfl); (exact rfl); (exact (HS6.out).get 0 rfl); (exact info_en); (exact rfl); (exact (oneCell_en _)); skip))
        have HS7 : Hid (Hp w [.ob (w.heap.size) 28 (enCells enNil), .ob B1 67 (rdCells r1), .ob B2 28 (enCells x)] (w7.setRow (w.heap.size) (enCells enNil).toArray)) := (HS6.out).row 0 rfl (enCells enNil)
        clear HS6
        generalize (w7.setRow (w.heap.size) (enCells enNil).toArray) = w8 at *
        refine bodyPost_ret (results_ob_tmp Try.results20 _ _ (w.heap.size) (enCells enNil) 28 _ rfl ((HS7.out).get 0 rfl) HUE.out rfl info_en) rfl ?_
        exact DecPost.mk HR.out enNil_good (HS7.out).old
      case true =>
        have HR : Hid (d = (x, 0)) := Lib.hid (by rw [HR0.out, hv]; rfl)
        rw [hv] at HV
        clear hv
        go_wp2_with (first | ((with_reducible refine wpList_load_ob 28 (.tmp 5) B2 (enCells x) 28 HUE.out ?_ ?_ ?_ ?_ ?_); (exact rfl); (exact (HS5.out).get 2 rfl); (exact rfl); (exact info_en); simp only [Act.put, List.setIfInBounds_toArray, List.set_cons_zero, List.set_cons_succ]))
        refine (HV.out _).mono ?_
        rintro e w7 ⟨rfl, hb⟩
        have HS6 : Hid (Hp w [.ob (w.heap.size) 28 (enCells enNil), .ob B1 67 (rdCells r1), .ob B2 28 (enCells x)] w7) := (HS5.out).calls hb
        clear hb
        clear HS5
        go_wp2_with (first | ((with_reducible refine wpList_load_ob 28 (.tmp 5) B2 (enCells x) 28 HUE.out ?_ ?_ ?_ ?_ ?_); (exact rfl); (exact (HS6.out).get 2 rfl); (exact rfl); (exact info_en); simp only [Act.put, List.setIfInBounds_toArray, List.set_cons_zero, List.set_cons_succ]) | ((with_reducible refine wpList_store_ob 28 (.tmp 2) (w.heap.size) (enCells x) (enCells enNil) 28 ?_ ?_ ?_ ?_ ?_ ?_ ?_); (exact rfl); (exact rfl); (exact (HS6.out).get 0 rfl); (exact info_en); (exact rfl); (exact (oneCell_en _)); skip))
        have HS7 : Hid (Hp w [.ob (w.heap.size) 28 (enCells x), .ob B1 67 (rdCells r1), .ob B2 28 (enCells x)] (w7.setRow (w.heap.size) (enCells x).toArray)) := (HS6.out).row 0 rfl (enCells x)
        clear HS6
        generalize (w7.setRow (w.heap.size) (enCells x).toArray) = w8 at *
        refine bodyPost_ret (results_ob_tmp Try.results20 _ _ (w.heap.size) (enCells x) 28 _ rfl ((HS7.out).get 0 rfl) HUE.out rfl info_en) rfl ?_
        exact DecPost.mk HR.out HZ.out.2 (HS7.out).old
end Go.Proofs.Ytgljhfofikjbdaa
/- the walk of the reference's Decode -/
namespace Go.Proofs.Ytgljhfofikjbdaa
open Go.RowKit
set_option maxRecDepth 20000
set_option linter.unusedSimpArgs false
set_option linter.unusedVariables false

def enCu (r : Cu) : Ent × Cu :=
  let a := rnumP 8 r; let b := rnumP 1 a.2; let c := rnumP 4 b.2; let d := rnumP 8 c.2; let e := rnumP 8 d.2; let f := rnumP 8 e.2; let g := rnumP 4 f.2; let h := rnumP 1 g.2; let i := rcellP h.2; let j := rcellP i.2; let k := rnumP 4 j.2; let l := rbytesP k.1 k.2
  (⟨a.1, b.1, c.1, d.1, e.1, f.1, ⟨g.1, h.1, i.1, j.1⟩, l.1⟩, l.2)
theorem enCu_of {r a b c d e f g h i j k l : Cu} {x1 x2 x3 x4 x5 x6 x7 x8 x11 : Int} {x9 x10 : Cl} {x12 : ByteArray} (h1 : rnumP 8 r = (x1, a)) (h2 : rnumP 1 a = (x2, b)) (h3 : rnumP 4 b = (x3, c)) (h4 : rnumP 8 c = (x4, d)) (h5 : rnumP 8 d = (x5, e)) (h6 : rnumP 8 e = (x6, f)) (h7 : rnumP 4 f = (x7, g)) (h8 : rnumP 1 g = (x8, h)) (h9 : rcellP h = (x9, i)) (h10 : rcellP i = (x10, j)) (h11 : rnumP 4 j = (x11, k)) (h12 : rbytesP x11 k = (x12, l)) : enCu r = (⟨x1, x2, x3, x4, x5, x6, ⟨x7, x8, x9, x10⟩, x12⟩, l) := by
  simp only [enCu, h1, h2, h3, h4, h5, h6, h7, h8, h9, h10, h11, h12]
noncomputable def decR (s : ByteArray) : Ent × Int :=
  if (enCu ⟨s, 0, 0⟩).2.e = 0 then (if (enCu ⟨s, 0, 0⟩).2.at_ = s.size then (if entOkB (enCu ⟨s, 0, 0⟩).1 = true then ((enCu ⟨s, 0, 0⟩).1, 0) else (enNil, 12)) else (enNil, 4)) else (enNil, (enCu ⟨s, 0, 0⟩).2.e)
theorem decR_of {s : ByteArray} {x : Ent} {r : Cu} (h : enCu ⟨s, 0, 0⟩ = (x, r)) : decR s = if r.e = 0 then (if r.at_ = s.size then (if entOkB x = true then (x, 0) else (enNil, 12)) else (enNil, 4)) else (enNil, r.e) := by unfold decR; rw [h]
theorem build_cu (s : ByteArray) (W : World) : Sem.run Try.prog (Instr.build 70 #[(0, .string s)]) W = .ok (.agg (cuCells ⟨s, 0, 0⟩).toArray) W := by kernel_rfl
set_option maxHeartbeats 16000000 in
theorem rdecode_any (s : ByteArray) (w : World) (hs : s.size ≤ 1000000000) : Calls Try.prog 21 #[.string s] w (DecPost (decR s) w) := by
  have HSz0 : Hid ((⟨s, 0, 0⟩ : Cu).s.size ≤ 1000000000 ∧ (⟨s, 0, 0⟩ : Cu).at_ ≤ (⟨s, 0, 0⟩ : Cu).s.size) := Lib.hid ⟨hs, Nat.zero_le _⟩
  obtain ⟨d, hd⟩ : ∃ d, decR s = d := ⟨_, rfl⟩
  have HD := Lib.hid hd
  rw [hd]
  clear hd
  have h1 := (Hp.start w).put 28 (enCells enNil)
  have HS0 : Hid (Hp w [.ob w.heap.size 28 (enCells enNil)] (w.alloc (.cells #[.int .i64 0, .int .i64 0, .int .i64 0, .int .i64 0, .int .i64 0, .int .i64 0, .int .i64 0, .int .i64 0, .bool false, .string ⟨#[]⟩, .bool false, .string ⟨#[]⟩, .string ⟨#[]⟩] 28))) := h1
  clear h1 hs
  obtain ⟨fsHUE, huHUE⟩ := under_en
  have HUE := Lib.hid huHUE
  clear huHUE
  obtain ⟨fsHUQ, huHUQ⟩ := under_cu
  have HUQ := Lib.hid huHUQ
  clear huHUQ
  go_enter Try.func21, Try.ntmps21
  go_upto_region 1 with (fail)
  have HS2 : Hid (Hp w [.ob (w.heap.size) 28 (enCells enNil)] (w.alloc (.cells #[.int .i64 0, .int .i64 0, .int .i64 0, .int .i64 0, .int .i64 0, .int .i64 0, .int .i64 0, .int .i64 0, .bool false, .string ⟨#[]⟩, .bool false, .string ⟨#[]⟩, .string ⟨#[]⟩] 28))) := HS0.out
  clear HS0
  generalize w.alloc (.cells #[.int .i64 0, .int .i64 0, .int .i64 0, .int .i64 0, .int .i64 0, .int .i64 0, .int .i64 0, .int .i64 0, .bool false, .string ⟨#[]⟩, .bool false, .string ⟨#[]⟩, .string ⟨#[]⟩] 28) = w3 at *
  go_upto_region 2 with (first | ((with_reducible refine wpList_build_v (d := some 7) 70 (.agg (cuCells ⟨s, 0, 0⟩).toArray) ?_ ?_); (intro W; simp only [List.map_toArray, List.map_cons, List.map_nil]; exact build_cu s W); simp only [Act.put, List.setIfInBounds_toArray, List.set_cons_zero, List.set_cons_succ]))
  have HS3 : Hid (Hp w [.ob (w.heap.size) 28 (enCells enNil), .ob (w3.heap.size) 70 (cuCells ⟨s, 0, 0⟩)] (w3.alloc (.cells (cuCells ⟨s, 0, 0⟩).toArray 70))) := (HS2.out).put 70 (cuCells ⟨s, 0, 0⟩)
  clear HS2
  generalize (w3.alloc (.cells (cuCells ⟨s, 0, 0⟩).toArray 70)) = w4 at *
  generalize w3.heap.size = B1 at *
  go_upto_region 3 with (first | ((with_reducible refine wpList_alloc_ob 28 (enCells enNil) ?_ ?_); (exact alloc_en); simp only [Act.put, List.setIfInBounds_toArray, List.set_cons_zero, List.set_cons_succ]))
  have HS4 : Hid (Hp w [.ob (w.heap.size) 28 (enCells enNil), .ob B1 70 (cuCells ⟨s, 0, 0⟩), .ob (w4.heap.size) 28 (enCells enNil)] (w4.alloc (.cells (enCells enNil).toArray 28))) := (HS3.out).put 28 (enCells enNil)
  clear HS3
  generalize (w4.alloc (.cells (enCells enNil).toArray 28)) = w5 at *
  generalize w4.heap.size = B2 at *
  go_wp2_with fail
  refine (cnumber_any B1 ⟨s, 0, 0⟩ 8 _ ((HS4.out).get 1 rfl) HSz0.out.1 HSz0.out.2 (by omega) (by omega)).mono ?_
  rintro e w6 ⟨n1, r1, rfl, HN1, HZ1, ht⟩
  have HS5 : Hid (Hp w [.ob (w.heap.size) 28 (enCells enNil), .ob B1 70 (cuCells r1), .ob B2 28 (enCells enNil)] w6) := (HS4.out).turned 1 rfl ht
  clear ht
  clear HS4
  have HSz1 : Hid (r1.s.size ≤ 1000000000 ∧ r1.at_ ≤ r1.s.size) := Lib.hid ⟨by rw [HZ1.out.s]; exact HSz0.out.1, by rw [HZ1.out.s]; exact HZ1.out.at_ HSz0.out.2⟩
  go_upto_region 4 with (first | ((with_reducible refine wpList_store_fld 3 (.tmp 11) (.tmp 10) B2 0 (.int .i64 n1) ([.int .i64 n1]) (enCells enNil) (enCells ⟨n1, 0, 0, 0, 0, 0, chNil, emptyS⟩) 28 ?_ ?_ ?_ ?_ ?_ ?_ ?_ ?_ ?_); (exact rfl); (exact rfl); (exact rfl); (exact (HS5.out).get 2 rfl); (exact (Nat.le_of_ble_eq_true rfl)); (exact info_int1); (exact (one_int _ _)); (exact rfl); skip))
  have HS6 : Hid (Hp w [.ob (w.heap.size) 28 (enCells enNil), .ob B1 70 (cuCells r1), .ob B2 28 (enCells ⟨n1, 0, 0, 0, 0, 0, chNil, emptyS⟩)] (w6.setRow B2 (enCells ⟨n1, 0, 0, 0, 0, 0, chNil, emptyS⟩).toArray)) := (HS5.out).row 2 rfl (enCells ⟨n1, 0, 0, 0, 0, 0, chNil, emptyS⟩)
  clear HS5
  generalize (w6.setRow B2 (enCells ⟨n1, 0, 0, 0, 0, 0, chNil, emptyS⟩).toArray) = w7 at *
  go_wp2_with fail
  refine (cnumber_any B1 r1 1 _ ((HS6.out).get 1 rfl) HSz1.out.1 HSz1.out.2 (by omega) (by omega)).mono ?_
  rintro e w8 ⟨n2, r2, rfl, HN2, HZ2, ht⟩
  have HS7 : Hid (Hp w [.ob (w.heap.size) 28 (enCells enNil), .ob B1 70 (cuCells r2), .ob B2 28 (enCells ⟨n1, 0, 0, 0, 0, 0, chNil, emptyS⟩)] w8) := (HS6.out).turned 1 rfl ht
  clear ht
  clear HS6
  have HSz2 : Hid (r2.s.size ≤ 1000000000 ∧ r2.at_ ≤ r2.s.size) := Lib.hid ⟨by rw [HZ2.out.s]; exact HSz1.out.1, by rw [HZ2.out.s]; exact HZ2.out.at_ HSz1.out.2⟩
  go_upto_region 5 with (first | ((with_reducible refine wpList_store_fld 3 (.tmp 14) (.tmp 13) B2 1 (.int .i64 n2) ([.int .i64 n2]) (enCells ⟨n1, 0, 0, 0, 0, 0, chNil, emptyS⟩) (enCells ⟨n1, n2, 0, 0, 0, 0, chNil, emptyS⟩) 28 ?_ ?_ ?_ ?_ ?_ ?_ ?_ ?_ ?_); (exact rfl); (exact rfl); (exact rfl); (exact (HS7.out).get 2 rfl); (exact (Nat.le_of_ble_eq_true rfl)); (exact info_int1); (exact (one_int _ _)); (exact rfl); skip))
  have HS8 : Hid (Hp w [.ob (w.heap.size) 28 (enCells enNil), .ob B1 70 (cuCells r2), .ob B2 28 (enCells ⟨n1, n2, 0, 0, 0, 0, chNil, emptyS⟩)] (w8.setRow B2 (enCells ⟨n1, n2, 0, 0, 0, 0, chNil, emptyS⟩).toArray)) := (HS7.out).row 2 rfl (enCells ⟨n1, n2, 0, 0, 0, 0, chNil, emptyS⟩)
  clear HS7
  generalize (w8.setRow B2 (enCells ⟨n1, n2, 0, 0, 0, 0, chNil, emptyS⟩).toArray) = w9 at *
  go_wp2_with fail
  refine (cnumber_any B1 r2 4 _ ((HS8.out).get 1 rfl) HSz2.out.1 HSz2.out.2 (by omega) (by omega)).mono ?_
  rintro e w10 ⟨n3, r3, rfl, HN3, HZ3, ht⟩
  have HS9 : Hid (Hp w [.ob (w.heap.size) 28 (enCells enNil), .ob B1 70 (cuCells r3), .ob B2 28 (enCells ⟨n1, n2, 0, 0, 0, 0, chNil, emptyS⟩)] w10) := (HS8.out).turned 1 rfl ht
  clear ht
  clear HS8
  have HSz3 : Hid (r3.s.size ≤ 1000000000 ∧ r3.at_ ≤ r3.s.size) := Lib.hid ⟨by rw [HZ3.out.s]; exact HSz2.out.1, by rw [HZ3.out.s]; exact HZ3.out.at_ HSz2.out.2⟩
  go_upto_region 6 with (first | ((with_reducible refine wpList_store_fld 3 (.tmp 17) (.tmp 16) B2 2 (.int .i64 n3) ([.int .i64 n3]) (enCells ⟨n1, n2, 0, 0, 0, 0, chNil, emptyS⟩) (enCells ⟨n1, n2, n3, 0, 0, 0, chNil, emptyS⟩) 28 ?_ ?_ ?_ ?_ ?_ ?_ ?_ ?_ ?_); (exact rfl); (exact rfl); (exact rfl); (exact (HS9.out).get 2 rfl); (exact (Nat.le_of_ble_eq_true rfl)); (exact info_int1); (exact (one_int _ _)); (exact rfl); skip))
  have HS10 : Hid (Hp w [.ob (w.heap.size) 28 (enCells enNil), .ob B1 70 (cuCells r3), .ob B2 28 (enCells ⟨n1, n2, n3, 0, 0, 0, chNil, emptyS⟩)] (w10.setRow B2 (enCells ⟨n1, n2, n3, 0, 0, 0, chNil, emptyS⟩).toArray)) := (HS9.out).row 2 rfl (enCells ⟨n1, n2, n3, 0, 0, 0, chNil, emptyS⟩)
  clear HS9
  generalize (w10.setRow B2 (enCells ⟨n1, n2, n3, 0, 0, 0, chNil, emptyS⟩).toArray) = w11 at *
  go_wp2_with fail
  refine (cnumber_any B1 r3 8 _ ((HS10.out).get 1 rfl) HSz3.out.1 HSz3.out.2 (by omega) (by omega)).mono ?_
  rintro e w12 ⟨n4, r4, rfl, HN4, HZ4, ht⟩
  have HS11 : Hid (Hp w [.ob (w.heap.size) 28 (enCells enNil), .ob B1 70 (cuCells r4), .ob B2 28 (enCells ⟨n1, n2, n3, 0, 0, 0, chNil, emptyS⟩)] w12) := (HS10.out).turned 1 rfl ht
  clear ht
  clear HS10
  have HSz4 : Hid (r4.s.size ≤ 1000000000 ∧ r4.at_ ≤ r4.s.size) := Lib.hid ⟨by rw [HZ4.out.s]; exact HSz3.out.1, by rw [HZ4.out.s]; exact HZ4.out.at_ HSz3.out.2⟩
  go_upto_region 7 with (first | ((with_reducible refine wpList_store_fld 3 (.tmp 20) (.tmp 19) B2 3 (.int .i64 n4) ([.int .i64 n4]) (enCells ⟨n1, n2, n3, 0, 0, 0, chNil, emptyS⟩) (enCells ⟨n1, n2, n3, n4, 0, 0, chNil, emptyS⟩) 28 ?_ ?_ ?_ ?_ ?_ ?_ ?_ ?_ ?_); (exact rfl); (exact rfl); (exact rfl); (exact (HS11.out).get 2 rfl); (exact (Nat.le_of_ble_eq_true rfl)); (exact info_int1); (exact (one_int _ _)); (exact rfl); skip))
  have HS12 : Hid (Hp w [.ob (w.heap.size) 28 (enCells enNil), .ob B1 70 (cuCells r4), .ob B2 28 (enCells ⟨n1, n2, n3, n4, 0, 0, chNil, emptyS⟩)] (w12.setRow B2 (enCells ⟨n1, n2, n3, n4, 0, 0, chNil, emptyS⟩).toArray)) := (HS11.out).row 2 rfl (enCells ⟨n1, n2, n3, n4, 0, 0, chNil, emptyS⟩)
  clear HS11
  generalize (w12.setRow B2 (enCells ⟨n1, n2, n3, n4, 0, 0, chNil, emptyS⟩).toArray) = w13 at *
  go_wp2_with fail
  refine (cnumber_any B1 r4 8 _ ((HS12.out).get 1 rfl) HSz4.out.1 HSz4.out.2 (by omega) (by omega)).mono ?_
  rintro e w14 ⟨n5, r5, rfl, HN5, HZ5, ht⟩
  have HS13 : Hid (Hp w [.ob (w.heap.size) 28 (enCells enNil), .ob B1 70 (cuCells r5), .ob B2 28 (enCells ⟨n1, n2, n3, n4, 0, 0, chNil, emptyS⟩)] w14) := (HS12.out).turned 1 rfl ht
  clear ht
  clear HS12
  have HSz5 : Hid (r5.s.size ≤ 1000000000 ∧ r5.at_ ≤ r5.s.size) := Lib.hid ⟨by rw [HZ5.out.s]; exact HSz4.out.1, by rw [HZ5.out.s]; exact HZ5.out.at_ HSz4.out.2⟩
  go_upto_region 8 with (first | ((with_reducible refine wpList_store_fld 3 (.tmp 23) (.tmp 22) B2 4 (.int .i64 n5) ([.int .i64 n5]) (enCells ⟨n1, n2, n3, n4, 0, 0, chNil, emptyS⟩) (enCells ⟨n1, n2, n3, n4, n5, 0, chNil, emptyS⟩) 28 ?_ ?_ ?_ ?_ ?_ ?_ ?_ ?_ ?_); (exact rfl); (exact rfl); (exact rfl); (exact (HS13.out).get 2 rfl); (exact (Nat.le_of_ble_eq_true rfl)); (exact info_int1); (exact (one_int _ _)); (exact rfl); skip))
  have HS14 : Hid (Hp w [.ob (w.heap.size) 28 (enCells enNil), .ob B1 70 (cuCells r5), .ob B2 28 (enCells ⟨n1, n2, n3, n4, n5, 0, chNil, emptyS⟩)] (w14.setRow B2 (enCells ⟨n1, n2, n3, n4, n5, 0, chNil, emptyS⟩).toArray)) := (HS13.out).row 2 rfl (enCells ⟨n1, n2, n3, n4, n5, 0, chNil, emptyS⟩)
  clear HS13
  generalize (w14.setRow B2 (enCells ⟨n1, n2, n3, n4, n5, 0, chNil, emptyS⟩).toArray) = w15 at *
  go_wp2_with fail
  refine (cnumber_any B1 r5 8 _ ((HS14.out).get 1 rfl) HSz5.out.1 HSz5.out.2 (by omega) (by omega)).mono ?_
  rintro e w16 ⟨n6, r6, rfl, HN6, HZ6, ht⟩
  have HS15 : Hid (Hp w [.ob (w.heap.size) 28 (enCells enNil), .ob B1 70 (cuCells r6), .ob B2 28 (enCells ⟨n1, n2, n3, n4, n5, 0, chNil, emptyS⟩)] w16) := (HS14.out).turned 1 rfl ht
  clear ht
  clear HS14
  have HSz6 : Hid (r6.s.size ≤ 1000000000 ∧ r6.at_ ≤ r6.s.size) := Lib.hid ⟨by rw [HZ6.out.s]; exact HSz5.out.1, by rw [HZ6.out.s]; exact HZ6.out.at_ HSz5.out.2⟩
  go_upto_region 9 with (first | ((with_reducible refine wpList_store_fld 3 (.tmp 26) (.tmp 25) B2 5 (.int .i64 n6) ([.int .i64 n6]) (enCells ⟨n1, n2, n3, n4, n5, 0, chNil, emptyS⟩) (enCells ⟨n1, n2, n3, n4, n5, n6, chNil, emptyS⟩) 28 ?_ ?_ ?_ ?_ ?_ ?_ ?_ ?_ ?_); (exact rfl); (exact rfl); (exact rfl); (exact (HS15.out).get 2 rfl); (exact (Nat.le_of_ble_eq_true rfl)); (exact info_int1); (exact (one_int _ _)); (exact rfl); skip))
  have HS16 : Hid (Hp w [.ob (w.heap.size) 28 (enCells enNil), .ob B1 70 (cuCells r6), .ob B2 28 (enCells ⟨n1, n2, n3, n4, n5, n6, chNil, emptyS⟩)] (w16.setRow B2 (enCells ⟨n1, n2, n3, n4, n5, n6, chNil, emptyS⟩).toArray)) := (HS15.out).row 2 rfl (enCells ⟨n1, n2, n3, n4, n5, n6, chNil, emptyS⟩)
  clear HS15
  generalize (w16.setRow B2 (enCells ⟨n1, n2, n3, n4, n5, n6, chNil, emptyS⟩).toArray) = w17 at *
  go_wp2_with fail
  refine (cnumber_any B1 r6 4 _ ((HS16.out).get 1 rfl) HSz6.out.1 HSz6.out.2 (by omega) (by omega)).mono ?_
  rintro e w18 ⟨n7, r7, rfl, HN7, HZ7, ht⟩
  have HS17 : Hid (Hp w [.ob (w.heap.size) 28 (enCells enNil), .ob B1 70 (cuCells r7), .ob B2 28 (enCells ⟨n1, n2, n3, n4, n5, n6, chNil, emptyS⟩)] w18) := (HS16.out).turned 1 rfl ht
  clear ht
  clear HS16
  have HSz7 : Hid (r7.s.size ≤ 1000000000 ∧ r7.at_ ≤ r7.s.size) := Lib.hid ⟨by rw [HZ7.out.s]; exact HSz6.out.1, by rw [HZ7.out.s]; exact HZ7.out.at_ HSz6.out.2⟩
  go_upto_region 10 with (first | ((with_reducible refine wpList_store_fld 3 (.tmp 30) (.tmp 28) B2 6 (.int .i64 n7) ([.int .i64 n7]) (enCells ⟨n1, n2, n3, n4, n5, n6, chNil, emptyS⟩) (enCells ⟨n1, n2, n3, n4, n5, n6, ⟨n7, 0, emptyCl, emptyCl⟩, emptyS⟩) 28 ?_ ?_ ?_ ?_ ?_ ?_ ?_ ?_ ?_); (exact rfl); (exact rfl); (exact rfl); (exact (HS17.out).get 2 rfl); (exact (Nat.le_of_ble_eq_true rfl)); (exact info_int1); (exact (one_int _ _)); (exact rfl); skip))
  have HS18 : Hid (Hp w [.ob (w.heap.size) 28 (enCells enNil), .ob B1 70 (cuCells r7), .ob B2 28 (enCells ⟨n1, n2, n3, n4, n5, n6, ⟨n7, 0, emptyCl, emptyCl⟩, emptyS⟩)] (w18.setRow B2 (enCells ⟨n1, n2, n3, n4, n5, n6, ⟨n7, 0, emptyCl, emptyCl⟩, emptyS⟩).toArray)) := (HS17.out).row 2 rfl (enCells ⟨n1, n2, n3, n4, n5, n6, ⟨n7, 0, emptyCl, emptyCl⟩, emptyS⟩)
  clear HS17
  generalize (w18.setRow B2 (enCells ⟨n1, n2, n3, n4, n5, n6, ⟨n7, 0, emptyCl, emptyCl⟩, emptyS⟩).toArray) = w19 at *
  go_wp2_with fail
  refine (cnumber_any B1 r7 1 _ ((HS18.out).get 1 rfl) HSz7.out.1 HSz7.out.2 (by omega) (by omega)).mono ?_
  rintro e w20 ⟨n8, r8, rfl, HN8, HZ8, ht⟩
  have HS19 : Hid (Hp w [.ob (w.heap.size) 28 (enCells enNil), .ob B1 70 (cuCells r8), .ob B2 28 (enCells ⟨n1, n2, n3, n4, n5, n6, ⟨n7, 0, emptyCl, emptyCl⟩, emptyS⟩)] w20) := (HS18.out).turned 1 rfl ht
  clear ht
  clear HS18
  have HSz8 : Hid (r8.s.size ≤ 1000000000 ∧ r8.at_ ≤ r8.s.size) := Lib.hid ⟨by rw [HZ8.out.s]; exact HSz7.out.1, by rw [HZ8.out.s]; exact HZ8.out.at_ HSz7.out.2⟩
  go_upto_region 11 with (first | ((with_reducible refine wpList_store_fld 3 (.tmp 34) (.tmp 32) B2 7 (.int .i64 n8) ([.int .i64 n8]) (enCells ⟨n1, n2, n3, n4, n5, n6, ⟨n7, 0, emptyCl, emptyCl⟩, emptyS⟩) (enCells ⟨n1, n2, n3, n4, n5, n6, ⟨n7, n8, emptyCl, emptyCl⟩, emptyS⟩) 28 ?_ ?_ ?_ ?_ ?_ ?_ ?_ ?_ ?_); (exact rfl); (exact rfl); (exact rfl); (exact (HS19.out).get 2 rfl); (exact (Nat.le_of_ble_eq_true rfl)); (exact info_int1); (exact (one_int _ _)); (exact rfl); skip))
  have HS20 : Hid (Hp w [.ob (w.heap.size) 28 (enCells enNil), .ob B1 70 (cuCells r8), .ob B2 28 (enCells ⟨n1, n2, n3, n4, n5, n6, ⟨n7, n8, emptyCl, emptyCl⟩, emptyS⟩)] (w20.setRow B2 (enCells ⟨n1, n2, n3, n4, n5, n6, ⟨n7, n8, emptyCl, emptyCl⟩, emptyS⟩).toArray)) := (HS19.out).row 2 rfl (enCells ⟨n1, n2, n3, n4, n5, n6, ⟨n7, n8, emptyCl, emptyCl⟩, emptyS⟩)
  clear HS19
  generalize (w20.setRow B2 (enCells ⟨n1, n2, n3, n4, n5, n6, ⟨n7, n8, emptyCl, emptyCl⟩, emptyS⟩).toArray) = w21 at *
  go_wp2_with fail
  refine (ccell_any B1 r8 _ ((HS20.out).get 1 rfl) HSz8.out.1 HSz8.out.2).mono ?_
  rintro e w22 ⟨x9, r9, rfl, HN9, HZ9, ht⟩
  have HS21 : Hid (Hp w [.ob (w.heap.size) 28 (enCells enNil), .ob B1 70 (cuCells r9), .ob B2 28 (enCells ⟨n1, n2, n3, n4, n5, n6, ⟨n7, n8, emptyCl, emptyCl⟩, emptyS⟩)] w22) := (HS20.out).turned 1 rfl ht
  clear ht
  clear HS20
  have HSz9 : Hid (r9.s.size ≤ 1000000000 ∧ r9.at_ ≤ r9.s.size) := Lib.hid ⟨by rw [HZ9.out.1.s]; exact HSz8.out.1, by rw [HZ9.out.1.s]; exact HZ9.out.1.at_ HSz8.out.2⟩
  go_upto_region 12 with (first | ((with_reducible refine wpList_store_fld 24 (.tmp 38) (.tmp 36) B2 8 (.agg (clCells x9).toArray) (clCells x9) (enCells ⟨n1, n2, n3, n4, n5, n6, ⟨n7, n8, emptyCl, emptyCl⟩, emptyS⟩) (enCells ⟨n1, n2, n3, n4, n5, n6, ⟨n7, n8, x9, emptyCl⟩, emptyS⟩) 28 ?_ ?_ ?_ ?_ ?_ ?_ ?_ ?_ ?_); (exact rfl); (exact rfl); (exact rfl); (exact (HS21.out).get 2 rfl); (exact (Nat.le_of_ble_eq_true rfl)); (exact info_cl); (exact (oneCell_cl _)); (exact rfl); skip))
  have HS22 : Hid (Hp w [.ob (w.heap.size) 28 (enCells enNil), .ob B1 70 (cuCells r9), .ob B2 28 (enCells ⟨n1, n2, n3, n4, n5, n6, ⟨n7, n8, x9, emptyCl⟩, emptyS⟩)] (w22.setRow B2 (enCells ⟨n1, n2, n3, n4, n5, n6, ⟨n7, n8, x9, emptyCl⟩, emptyS⟩).toArray)) := (HS21.out).row 2 rfl (enCells ⟨n1, n2, n3, n4, n5, n6, ⟨n7, n8, x9, emptyCl⟩, emptyS⟩)
  clear HS21
  generalize (w22.setRow B2 (enCells ⟨n1, n2, n3, n4, n5, n6, ⟨n7, n8, x9, emptyCl⟩, emptyS⟩).toArray) = w23 at *
  go_wp2_with fail
  refine (ccell_any B1 r9 _ ((HS22.out).get 1 rfl) HSz9.out.1 HSz9.out.2).mono ?_
  rintro e w24 ⟨x10, r10, rfl, HN10, HZ10, ht⟩
  have HS23 : Hid (Hp w [.ob (w.heap.size) 28 (enCells enNil), .ob B1 70 (cuCells r10), .ob B2 28 (enCells ⟨n1, n2, n3, n4, n5, n6, ⟨n7, n8, x9, emptyCl⟩, emptyS⟩)] w24) := (HS22.out).turned 1 rfl ht
  clear ht
  clear HS22
  have HSz10 : Hid (r10.s.size ≤ 1000000000 ∧ r10.at_ ≤ r10.s.size) := Lib.hid ⟨by rw [HZ10.out.1.s]; exact HSz9.out.1, by rw [HZ10.out.1.s]; exact HZ10.out.1.at_ HSz9.out.2⟩
  go_upto_region 13 with (first | ((with_reducible refine wpList_store_fld 24 (.tmp 42) (.tmp 40) B2 10 (.agg (clCells x10).toArray) (clCells x10) (enCells ⟨n1, n2, n3, n4, n5, n6, ⟨n7, n8, x9, emptyCl⟩, emptyS⟩) (enCells ⟨n1, n2, n3, n4, n5, n6, ⟨n7, n8, x9, x10⟩, emptyS⟩) 28 ?_ ?_ ?_ ?_ ?_ ?_ ?_ ?_ ?_); (exact rfl); (exact rfl); (exact rfl); (exact (HS23.out).get 2 rfl); (exact (Nat.le_of_ble_eq_true rfl)); (exact info_cl); (exact (oneCell_cl _)); (exact rfl); skip))
  have HS24 : Hid (Hp w [.ob (w.heap.size) 28 (enCells enNil), .ob B1 70 (cuCells r10), .ob B2 28 (enCells ⟨n1, n2, n3, n4, n5, n6, ⟨n7, n8, x9, x10⟩, emptyS⟩)] (w24.setRow B2 (enCells ⟨n1, n2, n3, n4, n5, n6, ⟨n7, n8, x9, x10⟩, emptyS⟩).toArray)) := (HS23.out).row 2 rfl (enCells ⟨n1, n2, n3, n4, n5, n6, ⟨n7, n8, x9, x10⟩, emptyS⟩)
  clear HS23
  generalize (w24.setRow B2 (enCells ⟨n1, n2, n3, n4, n5, n6, ⟨n7, n8, x9, x10⟩, emptyS⟩).toArray) = w25 at *
  go_wp2_with fail
  refine (cnumber_any B1 r10 4 _ ((HS24.out).get 1 rfl) HSz10.out.1 HSz10.out.2 (by omega) (by omega)).mono ?_
  rintro e w26 ⟨n11, r11, rfl, HN11, HZ11, ht⟩
  have HS25 : Hid (Hp w [.ob (w.heap.size) 28 (enCells enNil), .ob B1 70 (cuCells r11), .ob B2 28 (enCells ⟨n1, n2, n3, n4, n5, n6, ⟨n7, n8, x9, x10⟩, emptyS⟩)] w26) := (HS24.out).turned 1 rfl ht
  clear ht
  clear HS24
  have HSz11 : Hid (r11.s.size ≤ 1000000000 ∧ r11.at_ ≤ r11.s.size) := Lib.hid ⟨by rw [HZ11.out.s]; exact HSz10.out.1, by rw [HZ11.out.s]; exact HZ11.out.at_ HSz10.out.2⟩
  go_wp2_with fail
  refine (cbytes_any B1 r11 n11 _ ((HS25.out).get 1 rfl) HSz11.out.1 HSz11.out.2 (rnumP_range (by decide) (by decide) HN11.out).1).mono ?_
  rintro e w27 ⟨x12, r12, rfl, HN12, HZ12, ht⟩
  have HS26 : Hid (Hp w [.ob (w.heap.size) 28 (enCells enNil), .ob B1 70 (cuCells r12), .ob B2 28 (enCells ⟨n1, n2, n3, n4, n5, n6, ⟨n7, n8, x9, x10⟩, emptyS⟩)] w27) := (HS25.out).turned 1 rfl ht
  clear ht
  clear HS25
  have HSz12 : Hid (r12.s.size ≤ 1000000000 ∧ r12.at_ ≤ r12.s.size) := Lib.hid ⟨by rw [HZ12.out.s]; exact HSz11.out.1, by rw [HZ12.out.s]; exact HZ12.out.at_ HSz11.out.2⟩
  go_upto_region 14 with (first | ((with_reducible refine wpList_store_fld 9 (.tmp 47) (.tmp 46) B2 12 (.string x12) ([.string x12]) (enCells ⟨n1, n2, n3, n4, n5, n6, ⟨n7, n8, x9, x10⟩, emptyS⟩) (enCells ⟨n1, n2, n3, n4, n5, n6, ⟨n7, n8, x9, x10⟩, x12⟩) 28 ?_ ?_ ?_ ?_ ?_ ?_ ?_ ?_ ?_); (exact rfl); (exact rfl); (exact rfl); (exact (HS26.out).get 2 rfl); (exact (Nat.le_of_ble_eq_true rfl)); (exact info_str1); (exact (one_str _)); (exact rfl); skip))
  have HS27 : Hid (Hp w [.ob (w.heap.size) 28 (enCells enNil), .ob B1 70 (cuCells r12), .ob B2 28 (enCells ⟨n1, n2, n3, n4, n5, n6, ⟨n7, n8, x9, x10⟩, x12⟩)] (w27.setRow B2 (enCells ⟨n1, n2, n3, n4, n5, n6, ⟨n7, n8, x9, x10⟩, x12⟩).toArray)) := (HS26.out).row 2 rfl (enCells ⟨n1, n2, n3, n4, n5, n6, ⟨n7, n8, x9, x10⟩, x12⟩)
  clear HS26
  generalize (w27.setRow B2 (enCells ⟨n1, n2, n3, n4, n5, n6, ⟨n7, n8, x9, x10⟩, x12⟩).toArray) = w28 at *
  have HX : Hid (enCu ⟨s, 0, 0⟩ = (⟨n1, n2, n3, n4, n5, n6, ⟨n7, n8, x9, x10⟩, x12⟩, r12)) := Lib.hid (enCu_of HN1.out HN2.out HN3.out HN4.out HN5.out HN6.out HN7.out HN8.out HN9.out HN10.out HN11.out HN12.out)
  have HXs : Hid (r12.s = s) := Lib.hid (by rw [HZ12.out.s, HZ11.out.s, HZ10.out.1.s, HZ9.out.1.s, HZ8.out.s, HZ7.out.s, HZ6.out.s, HZ5.out.s, HZ4.out.s, HZ3.out.s, HZ2.out.s, HZ1.out.s])
  have HG : Hid (GoodEn ⟨n1, n2, n3, n4, n5, n6, ⟨n7, n8, x9, x10⟩, x12⟩) := Lib.hid ⟨rnumP_wf HN1.out, rnumP_wf HN2.out, rnumP_wf HN3.out, rnumP_wf HN4.out, rnumP_wf HN5.out, rnumP_wf HN6.out, ⟨rnumP_wf HN7.out, rnumP_wf HN8.out, cell_read _ HZ9.out.2, cell_read _ HZ10.out.2⟩, by have := rbytesP_out HN12.out HSz11.out.1; show x12.size ≤ maxLen; unfold maxLen; omega⟩
  clear HZ1 HZ2 HZ3 HZ4 HZ5 HZ6 HZ7 HZ8 HZ9 HZ10 HZ11 HZ12 HN1 HN2 HN3 HN4 HN5 HN6 HN7 HN8 HN9 HN10 HN11 HN12 HSz0 HSz1 HSz2 HSz3 HSz4 HSz5 HSz6 HSz7 HSz8 HSz9 HSz10 HSz11
  have c1 : w28.cell? ⟨B1, 1, none⟩ = some (.int .i64 (r12.at_ : Int)) := (HS27.out).at 1 rfl 1 rfl
  have c2 : w28.cell? ⟨B1, 2, none⟩ = some (.int .i64 r12.e) := (HS27.out).at 1 rfl 2 rfl
  by_cases q1 : r12.e = 0
  case neg =>
    have HR : Hid (d = (enNil, r12.e)) := Lib.hid (by rw [← HD.out, decR_of HX.out, if_neg q1])
    have q1n : (r12.e != 0) = true := by simpa using q1
    clear q1
    go_upto_region 15 with (fail)
    clear c1
    refine wp_region_held_drew (S := fun w' => Hold w.heap.size [.ob B1 70 (cuCells r12)] w') (by kernel_rfl) ((HS27.out).drew.pick [1] rfl) (fun hHeld => ?_)
    refine wpAnyH_take (i := 0) (oi := { dst := some 54, op := Op.build 28 #[], type := 28, pos := "ref.go:136", after := #[], guard := none }) rfl (by kernel_rfl) (by kernel_rfl) (by kernel_rfl) (fun _ _ _ h => h) (yieldsIf_build_v (by rfl) 28 (.agg (enCells enNil).toArray) rfl (fun W => by simp only [List.map_toArray, List.map_cons, List.map_nil]; exact build_nil W)) hHeld ?_
    try simp only [Act.put, List.setIfInBounds_toArray, List.set_cons_zero, List.set_cons_succ]
    refine wpAnyH_take (i := 1) (oi := { dst := some 55, op := Op.move (Operand.tmp 4), type := 68, pos := "ref.go:136", after := #[{ on := 5, ground := Ground.gcOnly Departure.lateStores }], guard := none }) (v := ?q2v) rfl (by kernel_rfl) (by kernel_rfl) (by kernel_rfl) (fun _ _ _ h => h) (Or.inl ⟨by rfl, ?q2h⟩) hHeld ?q2r
    case q2h => (intro wq hSw; clear hSw; go_simp; try with_reducible rfl)
    try simp only [Act.put, List.setIfInBounds_toArray, List.set_cons_zero, List.set_cons_succ]
    refine wpAnyH_take (i := 2) (oi := { dst := some 56, op := Op.nilCheck (Operand.tmp 55), type := 0, pos := "ref.go:136", after := #[{ on := 1, ground := Ground.data }, { on := 5, ground := Ground.gcOnly Departure.lateStores }], guard := none }) (v := ?q3v) rfl (by kernel_rfl) (by kernel_rfl) (by kernel_rfl) (fun _ _ _ h => h) (Or.inl ⟨by rfl, ?q3h⟩) hHeld ?q3r
    case q3h => (intro wq hSw; clear hSw; go_simp; try with_reducible rfl)
    try simp only [Act.put, List.setIfInBounds_toArray, List.set_cons_zero, List.set_cons_succ]
    refine wpAnyH_take (i := 3) (oi := { dst := some 57, op := Op.fieldAddr 70 (Operand.tmp 56) 2, type := 0, pos := "ref.go:136", after := #[{ on := 2, ground := Ground.data }, { on := 5, ground := Ground.gcOnly Departure.lateStores }], guard := none }) (v := ?q4v) rfl (by kernel_rfl) (by kernel_rfl) (by kernel_rfl) (fun _ _ _ h => h) (Or.inl ⟨by rfl, ?q4h⟩) hHeld ?q4r
    case q4h => (intro wq hSw; clear hSw; go_simp; try with_reducible rfl)
    try simp only [Act.put, List.setIfInBounds_toArray, List.set_cons_zero, List.set_cons_succ]
    refine wpAnyH_take (i := 4) (oi := { dst := some 58, op := Op.load 35 (Operand.tmp 57), type := 35, pos := "ref.go:136", after := #[{ on := 3, ground := Ground.data }, { on := 5, ground := Ground.gcOnly Departure.lateStores }], guard := none }) (v := .int .i64 r12.e) rfl (by kernel_rfl) (by kernel_rfl) (by kernel_rfl) (fun _ _ _ h => h) (Or.inl ⟨by rfl, ?q5h⟩) hHeld ?q5r
    case q5h => (intro wq hSw; have lq := hSw.at 0 rfl 2 (v := .int .i64 r12.e) rfl; clear hSw; go_simp; try with_reducible rfl)
    try simp only [Act.put, List.setIfInBounds_toArray, List.set_cons_zero, List.set_cons_succ]
    refine wpAnyH_ready (rs := [5]) (by kernel_rfl) (by simp) ?_
    refine AllReadyH.cons (o := { dst := none, op := Op.store 28 (Operand.tmp 2) (Operand.tmp 54), type := 0, pos := "ref.go:136", after := #[{ on := 0, ground := Ground.data }, { on := 0, ground := Ground.phase }, { on := 1, ground := Ground.textOnly Departure.lateStores }, { on := 2, ground := Ground.textOnly Departure.lateStores }, { on := 3, ground := Ground.textOnly Departure.lateStores }, { on := 4, ground := Ground.textOnly Departure.lateStores }], guard := none }) rfl (fun K hK => ?_) (AllReadyH.nil)
    rw [if_pos (by rfl)]
    refine wp_store_ob 28 (.tmp 2) (.tmp 54) (w.heap.size) (enCells enNil) (enCells enNil) 28 rfl rfl rfl rfl (((HS27.out).drew).get 0 rfl) (info_en) (rfl) ((oneCell_en _)) ?_
    have HS28 : Hid (Hp w [.ob (w.heap.size) 28 (enCells enNil), .ob B1 70 (cuCells r12), .ob B2 28 (enCells ⟨n1, n2, n3, n4, n5, n6, ⟨n7, n8, x9, x10⟩, x12⟩)] (w28.drew.setRow (w.heap.size) (enCells enNil).toArray)) := ((HS27.out).drew).row 0 rfl (enCells enNil)
    refine hK.out _ _ (HS28.out.pick [1] rfl) (fun hHeld => ?_)
    clear hK K
    generalize (w28.drew.setRow (w.heap.size) (enCells enNil).toArray) = w29 at *
    try simp only [Act.put, List.setIfInBounds_toArray, List.set_cons_zero, List.set_cons_succ]
    refine wpAnyH_take (i := 6) (oi := { dst := some 3, op := Op.assign (Operand.tmp 58), type := 35, pos := "ref.go:136", after := #[{ on := 4, ground := Ground.data }, { on := 5, ground := Ground.chain }, { on := 0, ground := Ground.phase }, { on := 1, ground := Ground.phase }, { on := 2, ground := Ground.phase }, { on := 3, ground := Ground.phase }, { on := 4, ground := Ground.phase }, { on := 5, ground := Ground.phase }], guard := none }) (v := ?q6v) rfl (by kernel_rfl) (by kernel_rfl) (by kernel_rfl) (fun _ _ _ h => h) (Or.inl ⟨by rfl, ?q6h⟩) hHeld ?q6r
    case q6h => (intro wq hSw; clear hSw; go_simp; try with_reducible rfl)
    try simp only [Act.put, List.setIfInBounds_toArray, List.set_cons_zero, List.set_cons_succ]
    refine wpAnyH_done (by kernel_rfl) ?_ _
    go_wp2_with fail
    refine bodyPost_ret (results_ob_tmp Try.results21 _ _ (w.heap.size) (enCells enNil) 28 _ rfl ((HS28.out).get 0 rfl) HUE.out rfl info_en) rfl ?_
    exact DecPost.mk HR.out enNil_good (HS28.out).old
  case pos =>
    have q1n : (r12.e != 0) = false := by rw [q1]; rfl
    by_cases q2 : r12.at_ = s.size
    case neg =>
      have HR : Hid (d = (enNil, 4)) := Lib.hid (by rw [← HD.out, decR_of HX.out, if_pos q1, if_neg q2])
      have q2b : ((r12.at_ : Int) != (s.size : Int)) = true := by simp; omega
      have q2c : (r12.at_ != s.size) = true := by simpa using q2
      clear q1 q2
      go_wp2_with (first | ((with_reducible refine wpList_build_v (d := some 67) 28 (.agg (enCells enNil).toArray) ?_ ?_); (intro W; simp only [List.map_toArray, List.map_cons, List.map_nil]; exact build_nil W); simp only [Act.put, List.setIfInBounds_toArray, List.set_cons_zero, List.set_cons_succ]) | ((with_reducible refine wpList_store_ob 28 (.tmp 2) (w.heap.size) (enCells enNil) (enCells enNil) 28 ?_ ?_ ?_ ?_ ?_ ?_ ?_); (exact rfl); (exact rfl); (exact (HS27.out).get 0 rfl); (exact info_en); (exact rfl); (exact (oneCell_en _)); skip))
      have HS28 : Hid (Hp w [.ob (w.heap.size) 28 (enCells enNil), .ob B1 70 (cuCells r12), .ob B2 28 (enCells ⟨n1, n2, n3, n4, n5, n6, ⟨n7, n8, x9, x10⟩, x12⟩)] (w28.setRow (w.heap.size) (enCells enNil).toArray)) := (HS27.out).row 0 rfl (enCells enNil)
      clear HS27
      generalize (w28.setRow (w.heap.size) (enCells enNil).toArray) = w29 at *
      refine bodyPost_ret (results_ob_tmp Try.results21 _ _ (w.heap.size) (enCells enNil) 28 _ rfl ((HS28.out).get 0 rfl) HUE.out rfl info_en) rfl ?_
      exact DecPost.mk HR.out enNil_good (HS28.out).old
    case pos =>
      have q2b : ((r12.at_ : Int) != (s.size : Int)) = false := by simp; omega
      have q2c : (r12.at_ != s.size) = false := by simpa using q2
      have HR0 : Hid (d = if entOkB ⟨n1, n2, n3, n4, n5, n6, ⟨n7, n8, x9, x10⟩, x12⟩ = true then (⟨n1, n2, n3, n4, n5, n6, ⟨n7, n8, x9, x10⟩, x12⟩, 0) else (enNil, 12)) := Lib.hid (by rw [← HD.out, decR_of HX.out, if_pos q1, if_pos q2])
      have HV := Lib.hid (fun W => rvalid_en _ W HG.out)
      clear q1 q2
      cases hv : entOkB ⟨n1, n2, n3, n4, n5, n6, ⟨n7, n8, x9, x10⟩, x12⟩
      case false =>
        have HR : Hid (d = (enNil, 12)) := Lib.hid (by rw [HR0.out, hv]; rfl)
        rw [hv] at HV
        clear hv
        go_wp2_with (first | ((with_reducible refine wpList_load_ob 28 (.tmp 5) B2 (enCells ⟨n1, n2, n3, n4, n5, n6, ⟨n7, n8, x9, x10⟩, x12⟩) 28 HUE.out ?_ ?_ ?_ ?_ ?_); (exact rfl); (exact (HS27.out).get 2 rfl); (exact rfl); (exact info_en); simp only [Act.put, List.setIfInBounds_toArray, List.set_cons_zero, List.set_cons_succ]))
        refine (HV.out _).mono ?_
        rintro e w29 ⟨rfl, hb⟩
        have HS28 : Hid (Hp w [.ob (w.heap.size) 28 (enCells enNil), .ob B1 70 (cuCells r12), .ob B2 28 (enCells ⟨n1, n2, n3, n4, n5, n6, ⟨n7, n8, x9, x10⟩, x12⟩)] w29) := (HS27.out).calls hb
        clear hb
        clear HS27
        go_wp2_with (first | ((with_reducible refine wpList_build_v (d := some 72) 28 (.agg (enCells enNil).toArray) ?_ ?_); (intro W; simp only [List.map_toArray, List.map_cons, List.map_nil]; exact build_nil W); simp only [Act.put, List.setIfInBounds_toArray, List.set_cons_zero, List.set_cons_succ]) | ((with_reducible refine wpList_store_ob 28 (.tmp 2) (w.heap.size) (enCells enNil) (enCells enNil) 28 ?_ ?_ ?_ ?_ ?_ ?_ ?_); (exact rfl); (exact rfl); (exact (HS28.out).get 0 rfl); (exact info_en); (exact rfl); (exact (oneCell_en _)); skip))
        have HS29 : Hid (Hp w [.ob (w.heap.size) 28 (enCells enNil), .ob B1 70 (cuCells r12), .ob B2 28 (enCells ⟨n1, n2, n3, n4, n5, n6, ⟨n7, n8, x9, x10⟩, x12⟩)] (w29.setRow (w.heap.size) (enCells enNil).toArray)) := (HS28.out).row 0 rfl (enCells enNil)
        clear HS28
        generalize (w29.setRow (w.heap.size) (enCells enNil).toArray) = w30 at *
        refine bodyPost_ret (results_ob_tmp Try.results21 _ _ (w.heap.size) (enCells enNil) 28 _ rfl ((HS29.out).get 0 rfl) HUE.out rfl info_en) rfl ?_
        exact DecPost.mk HR.out enNil_good (HS29.out).old
      case true =>
        have HR : Hid (d = (⟨n1, n2, n3, n4, n5, n6, ⟨n7, n8, x9, x10⟩, x12⟩, 0)) := Lib.hid (by rw [HR0.out, hv]; rfl)
        rw [hv] at HV
        clear hv
        go_wp2_with (first | ((with_reducible refine wpList_load_ob 28 (.tmp 5) B2 (enCells ⟨n1, n2, n3, n4, n5, n6, ⟨n7, n8, x9, x10⟩, x12⟩) 28 HUE.out ?_ ?_ ?_ ?_ ?_); (exact rfl); (exact (HS27.out).get 2 rfl); (exact rfl); (exact info_en); simp only [Act.put, List.setIfInBounds_toArray, List.set_cons_zero, List.set_cons_succ]))
        refine (HV.out _).mono ?_
        rintro e w29 ⟨rfl, hb⟩
        have HS28 : Hid (Hp w [.ob (w.heap.size) 28 (enCells enNil), .ob B1 70 (cuCells r12), .ob B2 28 (enCells ⟨n1, n2, n3, n4, n5, n6, ⟨n7, n8, x9, x10⟩, x12⟩)] w29) := (HS27.out).calls hb
        clear hb
        clear HS27
        go_wp2_with (first | ((with_reducible refine wpList_load_ob 28 (.tmp 5) B2 (enCells ⟨n1, n2, n3, n4, n5, n6, ⟨n7, n8, x9, x10⟩, x12⟩) 28 HUE.out ?_ ?_ ?_ ?_ ?_); (exact rfl); (exact (HS28.out).get 2 rfl); (exact rfl); (exact info_en); simp only [Act.put, List.setIfInBounds_toArray, List.set_cons_zero, List.set_cons_succ]) | ((with_reducible refine wpList_store_ob 28 (.tmp 2) (w.heap.size) (enCells ⟨n1, n2, n3, n4, n5, n6, ⟨n7, n8, x9, x10⟩, x12⟩) (enCells enNil) 28 ?_ ?_ ?_ ?_ ?_ ?_ ?_); (exact rfl); (exact rfl); (exact (HS28.out).get 0 rfl); (exact info_en); (exact rfl); (exact (oneCell_en _)); skip))
        have HS29 : Hid (Hp w [.ob (w.heap.size) 28 (enCells ⟨n1, n2, n3, n4, n5, n6, ⟨n7, n8, x9, x10⟩, x12⟩), .ob B1 70 (cuCells r12), .ob B2 28 (enCells ⟨n1, n2, n3, n4, n5, n6, ⟨n7, n8, x9, x10⟩, x12⟩)] (w29.setRow (w.heap.size) (enCells ⟨n1, n2, n3, n4, n5, n6, ⟨n7, n8, x9, x10⟩, x12⟩).toArray)) := (HS28.out).row 0 rfl (enCells ⟨n1, n2, n3, n4, n5, n6, ⟨n7, n8, x9, x10⟩, x12⟩)
        clear HS28
        generalize (w29.setRow (w.heap.size) (enCells ⟨n1, n2, n3, n4, n5, n6, ⟨n7, n8, x9, x10⟩, x12⟩).toArray) = w30 at *
        refine bodyPost_ret (results_ob_tmp Try.results21 _ _ (w.heap.size) (enCells ⟨n1, n2, n3, n4, n5, n6, ⟨n7, n8, x9, x10⟩, x12⟩) 28 _ rfl ((HS29.out).get 0 rfl) HUE.out rfl info_en) rfl ?_
        exact DecPost.mk HR.out HG.out (HS29.out).old
end Go.Proofs.Ytgljhfofikjbdaa
/- both Decodes answer the same -/
namespace Go.Proofs.Ytgljhfofikjbdaa
open Go.RowKit
set_option maxRecDepth 20000

theorem getD_extract (s : ByteArray) (a k : Nat) : (s.extract a s.size).data.toList.getD (0 + k) 0 = s.data.toList.getD (a + k) 0 := by
  rw [extract_list, List.take_of_length_le (by simp), List.getD_eq_getElem?_getD, List.getD_eq_getElem?_getD, List.getElem?_drop, Nat.zero_add]
theorem leNum_extract (s : ByteArray) (a k : Nat) : leNum (s.extract a s.size) 0 k = leNum s a k := by
  induction k with
  | zero => rfl
  | succ k ih => rw [leNum, leNum, ih, getD_extract]
theorem extract_extract (s : ByteArray) (a k : Nat) : (s.extract a s.size).extract k (s.extract a s.size).size = s.extract (a + k) s.size := by
  apply str_eq
  rw [extract_list, extract_list, extract_list, List.take_of_length_le (by rw [ByteArray.size_extract]; simp), List.take_of_length_le (by simp), List.drop_drop]
theorem extract_first (s : ByteArray) (a k : Nat) : (s.extract a s.size).extract 0 k = s.extract a (a + k) := by
  apply str_eq
  simp only [extract_list, List.drop_zero]
  rw [List.take_of_length_le (l := s.data.toList) (by simp), List.drop_take, Nat.add_sub_cancel_left]
/-- a reader and a cursor at the same place -/
structure Rel (r : Rs) (c : Cu) : Prop where
  err : r.err = c.e
  rest : c.e = 0 → r.rest = c.s.extract c.at_ c.s.size
  at_ : c.at_ ≤ c.s.size
structure Sim {α : Type} (p : α × Rs) (q : α × Cu) (c : Cu) : Prop where
  rel : Rel p.2 q.2
  val : q.2.e = 0 → p.1 = q.1
  back : q.2.e = 0 → c.e = 0
theorem failP_err {r : Rs} (e : Int) (h : r.err ≠ 0) : (failP r e).err = r.err := by unfold failP; rw [if_neg h]
theorem num_sim {r : Rs} {c : Cu} (z : Int) (h1 : 1 ≤ z) (h : Rel r c) : Sim (numP z r) (rnumP z c) c := by
  by_cases he : c.e = 0
  · have hr := h.rest he
    have hsz : r.rest.size = c.s.size - c.at_ := by rw [hr, ByteArray.size_extract]; omega
    have hle := h.at_
    by_cases hz : (c.s.size : Int) < c.at_ + z
    · have e1 : numP z r = (0, failP r 5) := by unfold numP; rw [if_pos (by omega)]
      have e2 : rnumP z c = (0, failC c 5) := by unfold rnumP; rw [if_pos he, if_pos hz]
      rw [e1, e2]
      refine ⟨⟨?_, fun h0 => absurd h0 (by show ¬ (5 : Int) = 0; decide), hle⟩, fun _ => rfl, fun _ => he⟩
      unfold failP; rw [if_pos (h.err.trans he)]; rfl
    · have e1 : numP z r = (wrap64 (leNum r.rest 0 z.toNat), ⟨r.rest.extract z.toNat r.rest.size, r.err⟩) := by unfold numP; rw [if_neg (by omega)]
      have e2 : rnumP z c = (wrap64 (leNum c.s c.at_ z.toNat), ⟨c.s, c.at_ + z.toNat, c.e⟩) := by unfold rnumP; rw [if_pos he, if_neg hz]
      rw [e1, e2]
      exact ⟨⟨h.err, fun _ => by show r.rest.extract _ _ = _; rw [hr, extract_extract], by show c.at_ + z.toNat ≤ c.s.size; omega⟩, fun _ => by show wrap64 _ = wrap64 _; rw [hr, leNum_extract], fun _ => he⟩
  · have e2 : rnumP z c = (0, c) := by unfold rnumP; rw [if_neg he]
    have hr : r.err ≠ 0 := fun k => he (h.err.symm.trans k)
    rw [e2]
    refine ⟨⟨?_, fun h0 => absurd h0 he, h.at_⟩, fun h0 => absurd h0 he, id⟩
    show (numP z r).2.err = c.e
    rw [← h.err]
    unfold numP
    split
    · exact failP_err 5 hr
    · rfl
theorem data_sim {r : Rs} {c : Cu} (n m : Int) (h0 : 0 ≤ m) (hn : c.e = 0 → n = m) (h : Rel r c) : Sim (dataP n r) (rbytesP m c) c := by
  by_cases he : c.e = 0
  · have hr := h.rest he
    obtain rfl := hn he
    have hsz : r.rest.size = c.s.size - c.at_ := by rw [hr, ByteArray.size_extract]; omega
    have hle := h.at_
    by_cases hz : (c.s.size : Int) < c.at_ + n
    · have e1 : dataP n r = (⟨#[]⟩, failP r 5) := by unfold dataP; rw [if_pos (by omega)]
      have e2 : rbytesP n c = (⟨#[]⟩, failC c 5) := by unfold rbytesP; rw [if_pos he, if_pos hz]
      rw [e1, e2]
      refine ⟨⟨?_, fun h0 => absurd h0 (by show ¬ (5 : Int) = 0; decide), hle⟩, fun _ => rfl, fun _ => he⟩
      unfold failP; rw [if_pos (h.err.trans he)]; rfl
    · have e1 : dataP n r = (r.rest.extract 0 n.toNat, ⟨r.rest.extract n.toNat r.rest.size, r.err⟩) := by unfold dataP; rw [if_neg (by omega)]
      have e2 : rbytesP n c = (c.s.extract c.at_ (c.at_ + n.toNat), ⟨c.s, c.at_ + n.toNat, c.e⟩) := by unfold rbytesP; rw [if_pos he, if_neg hz]
      rw [e1, e2]
      exact ⟨⟨h.err, fun _ => by show r.rest.extract _ _ = _; rw [hr, extract_extract], by show c.at_ + n.toNat ≤ c.s.size; omega⟩, fun _ => by show r.rest.extract _ _ = _; rw [hr, extract_first], fun _ => he⟩
  · have e2 : rbytesP m c = (⟨#[]⟩, c) := by unfold rbytesP; rw [if_neg he]
    have hr : r.err ≠ 0 := fun k => he (h.err.symm.trans k)
    rw [e2]
    refine ⟨⟨?_, fun h0 => absurd h0 he, h.at_⟩, fun h0 => absurd h0 he, id⟩
    show (dataP n r).2.err = c.e
    rw [← h.err]
    unfold dataP
    split
    · exact failP_err 5 hr
    · rfl
theorem cell_sim {r : Rs} {c : Cu} (h : Rel r c) : Sim (cellRd r) (rcellP c) c := by
  have s := num_sim 1 (by decide) h
  have hrg := rnumP_range (z := 1) (r := c) (r' := (rnumP 1 c).2) (n := (rnumP 1 c).1) (by decide) (by decide) rfl
  unfold cellRd rcellP
  generalize numP 1 r = p at *
  generalize rnumP 1 c = q at *
  obtain ⟨n, r1⟩ := p
  obtain ⟨m, c1⟩ := q
  simp only at hrg ⊢
  by_cases he : c1.e = 0
  · obtain rfl : n = m := s.val he
    by_cases h1 : n = 255
    · rw [if_pos h1, if_neg (show ¬ (c1.e = 0 ∧ ¬ n = 255) from fun k => k.2 h1)]
      exact ⟨s.rel, fun _ => rfl, s.back⟩
    · rw [if_neg h1, if_pos (show c1.e = 0 ∧ ¬ n = 255 from ⟨he, h1⟩)]
      by_cases h2 : 12 < n
      · rw [if_pos h2, if_pos h2]
        refine ⟨⟨?_, fun h0 => absurd h0 (by show ¬ (4 : Int) = 0; decide), s.rel.at_⟩, fun _ => rfl, fun _ => s.back he⟩
        show (failP r1 4).err = 4
        unfold failP; rw [if_pos (s.rel.err.trans he)]
      · rw [if_neg h2, if_neg h2]
        have d := data_sim n n hrg.1 (fun _ => rfl) s.rel
        exact ⟨d.rel, fun k => by show (⟨true, _⟩ : Cl) = ⟨true, _⟩; rw [d.val k], fun k => s.back (d.back k)⟩
  · have hr : r1.err ≠ 0 := fun k => he (s.rel.err.symm.trans k)
    rw [if_neg (c := c1.e = 0 ∧ ¬ m = 255) (fun k => he k.1)]
    refine ⟨⟨?_, fun h0 => absurd h0 he, s.rel.at_⟩, fun h0 => absurd h0 he, fun h0 => absurd h0 he⟩
    show _ = c1.e
    rw [← s.rel.err]
    split
    · rfl
    · split
      · exact failP_err 4 hr
      · show (dataP n r1).2.err = _
        unfold dataP
        split
        · exact failP_err 5 hr
        · rfl
theorem en_sim {r : Rs} {c : Cu} (h : Rel r c) : Sim (enRd r) (enCu c) c := by
  rcases h1 : numP 8 r with ⟨x1, r1⟩
  rcases k1 : rnumP 8 c with ⟨y1, c1⟩
  have s1 := num_sim 8 (by decide) (r := r) (c := c) h
  rw [h1, k1] at s1
  rcases h2 : numP 1 r1 with ⟨x2, r2⟩
  rcases k2 : rnumP 1 c1 with ⟨y2, c2⟩
  have s2 := num_sim 1 (by decide) (r := r1) (c := c1) s1.rel
  rw [h2, k2] at s2
  rcases h3 : numP 4 r2 with ⟨x3, r3⟩
  rcases k3 : rnumP 4 c2 with ⟨y3, c3⟩
  have s3 := num_sim 4 (by decide) (r := r2) (c := c2) s2.rel
  rw [h3, k3] at s3
  rcases h4 : numP 8 r3 with ⟨x4, r4⟩
  rcases k4 : rnumP 8 c3 with ⟨y4, c4⟩
  have s4 := num_sim 8 (by decide) (r := r3) (c := c3) s3.rel
  rw [h4, k4] at s4
  rcases h5 : numP 8 r4 with ⟨x5, r5⟩
  rcases k5 : rnumP 8 c4 with ⟨y5, c5⟩
  have s5 := num_sim 8 (by decide) (r := r4) (c := c4) s4.rel
  rw [h5, k5] at s5
  rcases h6 : numP 8 r5 with ⟨x6, r6⟩
  rcases k6 : rnumP 8 c5 with ⟨y6, c6⟩
  have s6 := num_sim 8 (by decide) (r := r5) (c := c5) s5.rel
  rw [h6, k6] at s6
  rcases h7 : numP 4 r6 with ⟨x7, r7⟩
  rcases k7 : rnumP 4 c6 with ⟨y7, c7⟩
  have s7 := num_sim 4 (by decide) (r := r6) (c := c6) s6.rel
  rw [h7, k7] at s7
  rcases h8 : numP 1 r7 with ⟨x8, r8⟩
  rcases k8 : rnumP 1 c7 with ⟨y8, c8⟩
  have s8 := num_sim 1 (by decide) (r := r7) (c := c7) s7.rel
  rw [h8, k8] at s8
  rcases h9 : cellRd r8 with ⟨x9, r9⟩
  rcases k9 : rcellP c8 with ⟨y9, c9⟩
  have s9 := cell_sim (r := r8) (c := c8) s8.rel
  rw [h9, k9] at s9
  rcases h10 : cellRd r9 with ⟨x10, r10⟩
  rcases k10 : rcellP c9 with ⟨y10, c10⟩
  have s10 := cell_sim (r := r9) (c := c9) s9.rel
  rw [h10, k10] at s10
  rcases h11 : numP 4 r10 with ⟨x11, r11⟩
  rcases k11 : rnumP 4 c10 with ⟨y11, c11⟩
  have s11 := num_sim 4 (by decide) (r := r10) (c := c10) s10.rel
  rw [h11, k11] at s11
  rcases h12 : dataP x11 r11 with ⟨x12, r12⟩
  rcases k12 : rbytesP y11 c11 with ⟨y12, c12⟩
  have s12 := data_sim (r := r11) (c := c11) x11 y11 (rnumP_range (by decide) (by decide) k11).1 s11.val s11.rel
  rw [h12, k12] at s12
  rw [enRd_of h1 h2 h3 h4 h5 h6 (chRd_of h7 h8 h9 h10) h11 h12, enCu_of k1 k2 k3 k4 k5 k6 k7 k8 k9 k10 k11 k12]
  refine ⟨s12.rel, fun h0 => ?_, fun h0 => s1.back (s2.back (s3.back (s4.back (s5.back (s6.back (s7.back (s8.back (s9.back (s10.back (s11.back (s12.back h0)))))))))))⟩
  have e11 := s12.back h0
  have e10 := s11.back e11
  have e9 := s10.back e10
  have e8 := s9.back e9
  have e7 := s8.back e8
  have e6 := s7.back e7
  have e5 := s6.back e6
  have e4 := s5.back e5
  have e3 := s4.back e4
  have e2 := s3.back e3
  have e1 := s2.back e2
  obtain rfl : x1 = y1 := s1.val e1
  obtain rfl : x2 = y2 := s2.val e2
  obtain rfl : x3 = y3 := s3.val e3
  obtain rfl : x4 = y4 := s4.val e4
  obtain rfl : x5 = y5 := s5.val e5
  obtain rfl : x6 = y6 := s6.val e6
  obtain rfl : x7 = y7 := s7.val e7
  obtain rfl : x8 = y8 := s8.val e8
  obtain rfl : x9 = y9 := s9.val e9
  obtain rfl : x10 = y10 := s10.val e10
  obtain rfl : x11 = y11 := s11.val e11
  obtain rfl : x12 = y12 := s12.val h0
  rfl
theorem rnumP_s (z : Int) (c : Cu) : (rnumP z c).2.s = c.s := by unfold rnumP; split <;> (try split) <;> rfl
theorem rbytesP_s (z : Int) (c : Cu) : (rbytesP z c).2.s = c.s := by unfold rbytesP; split <;> (try split) <;> rfl
theorem rcellP_s (c : Cu) : (rcellP c).2.s = c.s := by
  unfold rcellP
  split
  · split
    · exact rnumP_s 1 c
    · show (rbytesP _ _).2.s = _; rw [rbytesP_s, rnumP_s]
  · exact rnumP_s 1 c
theorem dec_same (s : ByteArray) : decP s = decR s := by
  have h := en_sim (r := ⟨s, 0⟩) (c := ⟨s, 0, 0⟩) ⟨rfl, fun _ => by apply str_eq; rw [extract_list, List.take_of_length_le (by simp), List.drop_zero], Nat.zero_le _⟩
  have hs : (enCu ⟨s, 0, 0⟩).2.s = s := by
    show (rbytesP _ _).2.s = s
    rw [rbytesP_s, rnumP_s, rcellP_s, rcellP_s, rnumP_s, rnumP_s, rnumP_s, rnumP_s, rnumP_s, rnumP_s, rnumP_s, rnumP_s]
  unfold decP decR
  rw [h.rel.err]
  by_cases h0 : (enCu ⟨s, 0, 0⟩).2.e = 0
  · rw [if_pos h0, if_pos h0, h.val h0]
    have hr := h.rel.rest h0
    have ha := h.rel.at_
    rw [hs] at hr ha
    have : (enRd ⟨s, 0⟩).2.rest.size = 0 ↔ (enCu ⟨s, 0, 0⟩).2.at_ = s.size := by
      rw [hr, ByteArray.size_extract]; omega
    by_cases h1 : (enCu ⟨s, 0, 0⟩).2.at_ = s.size
    · rw [if_pos h1, if_pos (this.2 h1)]
    · rw [if_neg h1, if_neg (fun k => h1 (this.1 k))]
  · rw [if_neg h0, if_neg h0]
end Go.Proofs.Ytgljhfofikjbdaa
/- texts of lists of bytes -/
namespace Go.Proofs.Ytgljhfofikjbdaa
open Go.RowKit

def ofL (l : List UInt8) : ByteArray := ⟨l.toArray⟩
theorem ofL_list (l : List UInt8) : (ofL l).data.toList = l := by simp [ofL]
theorem ofL_size (l : List UInt8) : (ofL l).size = l.length := by show l.toArray.size = l.length; simp
theorem putR_list (s : ByteArray) (n : Int) (k : Nat) (h1 : 1 ≤ k) (h8 : k ≤ 8) : putR s n k = ofL (s.data.toList ++ leL n k) := by
  unfold putR
  rw [if_neg (by omega)]
  apply str_eq
  rw [str_app, ofL_list]
  simp [leS]
end Go.Proofs.Ytgljhfofikjbdaa
/- the bytes of an entry, and the walks of both Encodes -/
namespace Go.Proofs.Ytgljhfofikjbdaa
open Go.RowKit
set_option maxRecDepth 20000
set_option linter.unusedSimpArgs false
set_option linter.unusedVariables false

def cellP (s : ByteArray) (c : Cl) : ByteArray := if c.set then putR s c.data.size 1 ++ c.data else putR s 255 1
def headP (e : Ent) : ByteArray := putR (putR (putR (putR (putR (putR (putR (putR ⟨#[]⟩ e.lsn 8) e.kind 1) e.tx 4) e.ptx 8) e.ppg 8) e.ref 8) e.ch.page 4) e.ch.slot 1
def enS (e : Ent) : ByteArray := putR (cellP (cellP (headP e) e.ch.before) e.ch.after) e.blob.size 4 ++ e.blob
noncomputable def encE (e : Ent) : ByteArray × Int := if entOkB e = false then (⟨#[]⟩, 12) else (enS e, 0)
theorem putR_size (s : ByteArray) (n z : Int) : (putR s n z).size ≤ s.size + 8 := by
  unfold putR
  split
  · omega
  · rw [ByteArray.size_append, leS_size]; omega
/-- a text that Put makes -/
def PutB (s : ByteArray) (n z : Int) (N : Nat) (w : World) (e : Ending) (w' : World) : Prop := ∃ t : ByteArray, e = .returned (.string t) ∧ Hid (t = putR s n z) ∧ Hid (t.size ≤ N + 8) ∧ Below w.heap.size w w'
theorem put_b (s : ByteArray) (n z : Int) (N : Nat) (w : World) (h : s.size ≤ N) (hN : N ≤ 1000000) : Calls Try.prog 26 #[.string s, .int .i64 n, .int .i64 z] w (PutB s n z N w) :=
  (put_any s n z w (by omega)).mono fun e w' ⟨he, hb⟩ => ⟨_, he, Lib.hid rfl, Lib.hid (by have := putR_size s n z; omega), hb⟩
theorem rput_b (s : ByteArray) (n z : Int) (N : Nat) (w : World) (h : s.size ≤ N) (hN : N ≤ 1000000) : Calls Try.prog 28 #[.string s, .int .i64 n, .int .i64 z] w (PutB s n z N w) :=
  (rput_any s n z w (by omega)).mono fun e w' ⟨he, hb⟩ => ⟨_, he, Lib.hid rfl, Lib.hid (by have := putR_size s n z; omega), hb⟩
def CellB (s : ByteArray) (c : Cl) (N : Nat) (w : World) (e : Ending) (w' : World) : Prop := ∃ t : ByteArray, e = .returned (.string t) ∧ Hid (t = cellP s c) ∧ Hid (t.size ≤ N + 20) ∧ Below w.heap.size w w'
theorem ent_small {e : Ent} (h : entOkB e = true) : e.ch.before.data.size ≤ 12 ∧ e.ch.after.data.size ≤ 12 ∧ e.blob.size ≤ 8192 := by
  unfold entOkB at h
  simp only [Bool.and_eq_true] at h
  obtain ⟨hk, _, _, _, _, _, _, _, _, _, h4, h5⟩ := h
  have small : ∀ {c : Chg}, chOkB c = true → c.before.data.size ≤ 12 ∧ c.after.data.size ≤ 12 := fun h => ⟨cellOk_small (chOk_parts h).2.2.2.2.1, cellOk_small (chOk_parts h).2.2.2.2.2⟩
  unfold ruleF at h4 h5
  by_cases h1 : e.kind = 1
  · simp only [h1, if_true] at h4 h5
    exact ⟨(small h4).1, (small h4).2, by have := of_decide_eq_true (show decide (e.blob.size = 0) = true from h5); omega⟩
  rw [if_neg h1] at h4 h5
  by_cases h1 : e.kind = 2
  · simp only [h1, if_true] at h4 h5
    exact ⟨(small h4).1, (small h4).2, by have := of_decide_eq_true (show decide (e.blob.size = 0) = true from h5); omega⟩
  rw [if_neg h1] at h4 h5
  have nilc : noChB e.ch = true → e.ch.before.data.size ≤ 12 ∧ e.ch.after.data.size ≤ 12 := fun h => by
    rw [sameV_iff.1 h]; decide
  by_cases h1 : e.kind = 3 ∨ e.kind = 4 ∨ e.kind = 5
  · rw [if_pos h1] at h4 h5
    exact ⟨(nilc h4).1, (nilc h4).2, by have := of_decide_eq_true (show decide (e.blob.size = 0) = true from h5); omega⟩
  rw [if_neg h1] at h4 h5
  by_cases h1 : e.kind = 7
  · rw [if_pos h1] at h4 h5
    have h4' := (Bool.and_eq_true _ _ ▸ (show aloneB e.ch = true from h4) : _ = true ∧ _ = true)
    exact ⟨(small h4'.2).1, (small h4'.2).2, by have := of_decide_eq_true (show decide (e.blob.size = 0) = true from h5); omega⟩
  rw [if_neg h1] at h4 h5
  exact ⟨(nilc h4).1, (nilc h4).2, by simpa [textF, blobB] using h5⟩
set_option maxHeartbeats 4000000 in
theorem putCell_b (s : ByteArray) (c : Cl) (N : Nat) (w : World) (h : s.size ≤ N) (hN : N ≤ 1000000) (hc : c.data.size ≤ 12) : Calls Try.prog 27 #[.string s, .agg (clCells c).toArray] w (CellB s c N w) := by
  obtain ⟨st, d⟩ := c
  have HN := Lib.hid hN
  have HH := Lib.hid h
  have hd : d.size ≤ 12 := hc
  have h1 := (Hp.start w).put 24 (clCells ⟨st, d⟩)
  have HS0 : Hid (Hp w [.ob w.heap.size 24 (clCells ⟨st, d⟩)] (w.alloc (.cells (clCells ⟨st, d⟩).toArray 24))) := h1
  clear h1 hN h hc
  have c0 : (w.alloc (.cells (clCells ⟨st, d⟩).toArray 24)).cell? ⟨w.heap.size, 0, none⟩ = some (.bool st) := HS0.out.at 0 rfl 0 rfl
  cases st
  · have HT : Hid (∀ t w', t = putR s 255 1 → t.size ≤ N + 8 → Below w.heap.size w w' → CellB s ⟨false, d⟩ N w (.returned (.string t)) w') := fun t w' ht hz hb => ⟨t, rfl, Lib.hid ht, Lib.hid (by omega), hb⟩
    go_enter Try.func27, Try.ntmps27
    go_wp2_with fail
    refine (put_b s 255 1 N _ HH.out HN.out).mono ?_
    rintro e w2 ⟨t1, rfl, HT1, HZ1, hb⟩
    have HS1 := Lib.hid (HS0.out.calls hb)
    clear hb c0 HS0
    go_wp2_with fail
    go_ret
    exact HT.out _ _ HT1.out HZ1.out HS1.out.old
  · have HT : Hid (∀ t w', t = putR s d.size 1 → t.size ≤ N + 8 → Below w.heap.size w w' → CellB s ⟨true, d⟩ N w (.returned (.string (t ++ d))) w') := fun t w' ht hz hb => ⟨t ++ d, rfl, Lib.hid (by subst ht; rfl), Lib.hid (by rw [ByteArray.size_append]; omega), hb⟩
    go_enter Try.func27, Try.ntmps27
    go_upto_region 1 with (fail)
    have HS2 : Hid (Hp w [.ob (w.heap.size) 24 (clCells ⟨true, d⟩)] (w.alloc (.cells (clCells ⟨true, d⟩).toArray 24))) := HS0.out
    clear HS0
    generalize w.alloc (.cells (clCells ⟨true, d⟩).toArray 24) = w3 at *
    go_upto_region 3 with (fail)
    clear c0
    refine wp_region_held_drew (S := fun w' => Hold w.heap.size [.ob (w.heap.size) 24 (clCells ⟨true, d⟩)] w') (by kernel_rfl) ((HS2.out).drew.pick [0] rfl) (fun hHeld => ?_)
    refine wpAnyH_take (i := 0) (oi := { dst := some 10, op := Op.move (Operand.tmp 0), type := 9, pos := "entry.go:109", after := #[], guard := none }) (v := ?q1v) rfl (by kernel_rfl) (by kernel_rfl) (by kernel_rfl) (fun _ _ _ h => h) (Or.inl ⟨by rfl, ?q1h⟩) hHeld ?q1r
    case q1h => (intro wq hSw; clear hSw; go_simp; try with_reducible rfl)
    try simp only [Act.put, List.setIfInBounds_toArray, List.set_cons_zero, List.set_cons_succ]
    refine wpAnyH_take (i := 1) (oi := { dst := some 11, op := Op.fieldAddr 24 (Operand.tmp 3) 1, type := 0, pos := "entry.go:109", after := #[], guard := none }) (v := ?q2v) rfl (by kernel_rfl) (by kernel_rfl) (by kernel_rfl) (fun _ _ _ h => h) (Or.inl ⟨by rfl, ?q2h⟩) hHeld ?q2r
    case q2h => (intro wq hSw; clear hSw; go_simp; try with_reducible rfl)
    try simp only [Act.put, List.setIfInBounds_toArray, List.set_cons_zero, List.set_cons_succ]
    refine wpAnyH_take (i := 2) (oi := { dst := some 12, op := Op.load 9 (Operand.tmp 11), type := 9, pos := "entry.go:109", after := #[{ on := 1, ground := Ground.data }], guard := none }) (v := .string d) rfl (by kernel_rfl) (by kernel_rfl) (by kernel_rfl) (fun _ _ _ h => h) (Or.inl ⟨by rfl, ?q3h⟩) hHeld ?q3r
    case q3h => (intro wq hSw; have lq := hSw.at 0 rfl 1 (v := .string d) rfl; clear hSw; go_simp; try with_reducible rfl)
    try simp only [Act.put, List.setIfInBounds_toArray, List.set_cons_zero, List.set_cons_succ]
    refine wpAnyH_take (i := 3) (oi := { dst := some 13, op := Op.call { callee := Callee.builtin Builtin.len, args := #[Operand.tmp 12], argTypes := #[9] }, type := 3, pos := "entry.go:109", after := #[{ on := 2, ground := Ground.data }], guard := none }) (v := ?q4v) rfl (by kernel_rfl) (by kernel_rfl) (by kernel_rfl) (fun _ _ _ h => h) (Or.inl ⟨by rfl, ?q4h⟩) hHeld ?q4r
    case q4h => (intro wq hSw; clear hSw; go_simp; try with_reducible rfl)
    try simp only [Act.put, List.setIfInBounds_toArray, List.set_cons_zero, List.set_cons_succ]
    refine wpAnyH_take (i := 5) (oi := { dst := some 15, op := Op.fieldAddr 24 (Operand.tmp 3) 1, type := 0, pos := "entry.go:109", after := #[], guard := none }) (v := ?q5v) rfl (by kernel_rfl) (by kernel_rfl) (by kernel_rfl) (fun _ _ _ h => h) (Or.inl ⟨by rfl, ?q5h⟩) hHeld ?q5r
    case q5h => (intro wq hSw; clear hSw; go_simp; try with_reducible rfl)
    try simp only [Act.put, List.setIfInBounds_toArray, List.set_cons_zero, List.set_cons_succ]
    refine wpAnyH_take (i := 6) (oi := { dst := some 16, op := Op.load 9 (Operand.tmp 15), type := 9, pos := "entry.go:109", after := #[{ on := 5, ground := Ground.data }], guard := none }) (v := .string d) rfl (by kernel_rfl) (by kernel_rfl) (by kernel_rfl) (fun _ _ _ h => h) (Or.inl ⟨by rfl, ?q6h⟩) hHeld ?q6r
    case q6h => (intro wq hSw; have lq := hSw.at 0 rfl 1 (v := .string d) rfl; clear hSw; go_simp; try with_reducible rfl)
    try simp only [Act.put, List.setIfInBounds_toArray, List.set_cons_zero, List.set_cons_succ]
    refine wpAnyH_ready (rs := [4]) (by kernel_rfl) (by simp) ?_
    refine AllReadyH.cons (o := { dst := some 14, op := Op.call { callee := Callee.value (Operand.func 26), args := #[Operand.tmp 10, Operand.tmp 13, Operand.const (Value.int IntKind.i64 1)], argTypes := #[9, 3, 3] }, type := 9, pos := "entry.go:109", after := #[{ on := 0, ground := Ground.data }, { on := 3, ground := Ground.data }], guard := none }) rfl (fun K hK => ?_) (AllReadyH.nil)
    go_simp
    go_wp2_with (go_at_call 26; refine (put_b s d.size 1 N _ HH.out HN.out).mono ?_; rintro e w4 ⟨t1, rfl, HT1, HZ1, hb⟩)
    have HS3 : Hid (Hp w [.ob (w.heap.size) 24 (clCells ⟨true, d⟩)] w4) := ((HS2.out).drew).calls hb
    refine hK.out _ _ (HS3.out.pick [0] rfl) (fun hHeld => ?_)
    clear hK K hb
    try simp only [Act.put, List.setIfInBounds_toArray, List.set_cons_zero, List.set_cons_succ]
    refine wpAnyH_take (i := 7) (oi := { dst := some 17, op := Op.binOp BinOp.add 9 (Operand.tmp 14) (Operand.tmp 16) 9, type := 9, pos := "entry.go:109", after := #[{ on := 4, ground := Ground.data }, { on := 6, ground := Ground.data }], guard := none }) (v := .string (t1 ++ d)) rfl (by kernel_rfl) (by kernel_rfl) (by kernel_rfl) (fun _ _ _ h => h) (Or.inl ⟨by rfl, ?q7h⟩) hHeld ?q7r
    case q7h => (intro wq hSw; have hz := HZ1.out; have hn := HN.out; have ha : ∀ W : World, Sem.run Try.prog (Op.stringOp .add t1 d) W = .ok (.string (t1 ++ d)) W := fun W => run_string_add_sum W _ _ (by omega); clear hSw hz hn; go_simp; try with_reducible rfl)
    try simp only [Act.put, List.setIfInBounds_toArray, List.set_cons_zero, List.set_cons_succ]
    refine wpAnyH_take (i := 8) (oi := { dst := some 4, op := Op.assign (Operand.tmp 17), type := 9, pos := "entry.go:109", after := #[{ on := 7, ground := Ground.data }, { on := 4, ground := Ground.chain }, { on := 0, ground := Ground.phase }, { on := 1, ground := Ground.phase }, { on := 2, ground := Ground.phase }, { on := 3, ground := Ground.phase }, { on := 4, ground := Ground.phase }, { on := 5, ground := Ground.phase }, { on := 6, ground := Ground.phase }, { on := 7, ground := Ground.phase }], guard := none }) (v := ?q8v) rfl (by kernel_rfl) (by kernel_rfl) (by kernel_rfl) (fun _ _ _ h => h) (Or.inl ⟨by rfl, ?q8h⟩) hHeld ?q8r
    case q8h => (intro wq hSw; clear hSw; go_simp; try with_reducible rfl)
    try simp only [Act.put, List.setIfInBounds_toArray, List.set_cons_zero, List.set_cons_succ]
    refine wpAnyH_done (by kernel_rfl) ?_ _
    go_wp2_with fail
    go_ret
    exact HT.out _ _ HT1.out HZ1.out (HS3.out).old
set_option maxHeartbeats 4000000 in
theorem rcell_b (s : ByteArray) (c : Cl) (N : Nat) (w : World) (h : s.size ≤ N) (hN : N ≤ 1000000) (hc : c.data.size ≤ 12) : Calls Try.prog 29 #[.string s, .agg (clCells c).toArray] w (CellB s c N w) := by
  obtain ⟨st, d⟩ := c
  have HN := Lib.hid hN
  have HH := Lib.hid h
  have hd : d.size ≤ 12 := hc
  have h1 := (Hp.start w).put 24 (clCells ⟨st, d⟩)
  have HS0 : Hid (Hp w [.ob w.heap.size 24 (clCells ⟨st, d⟩)] (w.alloc (.cells (clCells ⟨st, d⟩).toArray 24))) := h1
  clear h1 hN h hc
  have c0 : (w.alloc (.cells (clCells ⟨st, d⟩).toArray 24)).cell? ⟨w.heap.size, 0, none⟩ = some (.bool st) := HS0.out.at 0 rfl 0 rfl
  cases st
  · have HT : Hid (∀ t w', t = putR s 255 1 → t.size ≤ N + 8 → Below w.heap.size w w' → CellB s ⟨false, d⟩ N w (.returned (.string t)) w') := fun t w' ht hz hb => ⟨t, rfl, Lib.hid ht, Lib.hid (by omega), hb⟩
    go_enter Try.func29, Try.ntmps29
    go_wp2_with fail
    refine (rput_b s 255 1 N _ HH.out HN.out).mono ?_
    rintro e w2 ⟨t1, rfl, HT1, HZ1, hb⟩
    have HS1 := Lib.hid (HS0.out.calls hb)
    clear hb c0 HS0
    go_wp2_with fail
    go_ret
    exact HT.out _ _ HT1.out HZ1.out HS1.out.old
  · have HT : Hid (∀ t w', t = putR s d.size 1 → t.size ≤ N + 8 → Below w.heap.size w w' → CellB s ⟨true, d⟩ N w (.returned (.string (t ++ d))) w') := fun t w' ht hz hb => ⟨t ++ d, rfl, Lib.hid (by subst ht; rfl), Lib.hid (by rw [ByteArray.size_append]; omega), hb⟩
    go_enter Try.func29, Try.ntmps29
    go_upto_region 1 with (fail)
    have HS2 : Hid (Hp w [.ob (w.heap.size) 24 (clCells ⟨true, d⟩)] (w.alloc (.cells (clCells ⟨true, d⟩).toArray 24))) := HS0.out
    clear HS0
    generalize w.alloc (.cells (clCells ⟨true, d⟩).toArray 24) = w3 at *
    go_upto_region 3 with (fail)
    clear c0
    refine wp_region_held_drew (S := fun w' => Hold w.heap.size [.ob (w.heap.size) 24 (clCells ⟨true, d⟩)] w') (by kernel_rfl) ((HS2.out).drew.pick [0] rfl) (fun hHeld => ?_)
    refine wpAnyH_take (i := 0) (oi := { dst := some 10, op := Op.move (Operand.tmp 0), type := 9, pos := "ref.go:52", after := #[], guard := none }) (v := ?q1v) rfl (by kernel_rfl) (by kernel_rfl) (by kernel_rfl) (fun _ _ _ h => h) (Or.inl ⟨by rfl, ?q1h⟩) hHeld ?q1r
    case q1h => (intro wq hSw; clear hSw; go_simp; try with_reducible rfl)
    try simp only [Act.put, List.setIfInBounds_toArray, List.set_cons_zero, List.set_cons_succ]
    refine wpAnyH_take (i := 1) (oi := { dst := some 11, op := Op.fieldAddr 24 (Operand.tmp 3) 1, type := 0, pos := "ref.go:52", after := #[], guard := none }) (v := ?q2v) rfl (by kernel_rfl) (by kernel_rfl) (by kernel_rfl) (fun _ _ _ h => h) (Or.inl ⟨by rfl, ?q2h⟩) hHeld ?q2r
    case q2h => (intro wq hSw; clear hSw; go_simp; try with_reducible rfl)
    try simp only [Act.put, List.setIfInBounds_toArray, List.set_cons_zero, List.set_cons_succ]
    refine wpAnyH_take (i := 2) (oi := { dst := some 12, op := Op.load 9 (Operand.tmp 11), type := 9, pos := "ref.go:52", after := #[{ on := 1, ground := Ground.data }], guard := none }) (v := .string d) rfl (by kernel_rfl) (by kernel_rfl) (by kernel_rfl) (fun _ _ _ h => h) (Or.inl ⟨by rfl, ?q3h⟩) hHeld ?q3r
    case q3h => (intro wq hSw; have lq := hSw.at 0 rfl 1 (v := .string d) rfl; clear hSw; go_simp; try with_reducible rfl)
    try simp only [Act.put, List.setIfInBounds_toArray, List.set_cons_zero, List.set_cons_succ]
    refine wpAnyH_take (i := 3) (oi := { dst := some 13, op := Op.call { callee := Callee.builtin Builtin.len, args := #[Operand.tmp 12], argTypes := #[9] }, type := 3, pos := "ref.go:52", after := #[{ on := 2, ground := Ground.data }], guard := none }) (v := ?q4v) rfl (by kernel_rfl) (by kernel_rfl) (by kernel_rfl) (fun _ _ _ h => h) (Or.inl ⟨by rfl, ?q4h⟩) hHeld ?q4r
    case q4h => (intro wq hSw; clear hSw; go_simp; try with_reducible rfl)
    try simp only [Act.put, List.setIfInBounds_toArray, List.set_cons_zero, List.set_cons_succ]
    refine wpAnyH_take (i := 5) (oi := { dst := some 15, op := Op.fieldAddr 24 (Operand.tmp 3) 1, type := 0, pos := "ref.go:52", after := #[], guard := none }) (v := ?q5v) rfl (by kernel_rfl) (by kernel_rfl) (by kernel_rfl) (fun _ _ _ h => h) (Or.inl ⟨by rfl, ?q5h⟩) hHeld ?q5r
    case q5h => (intro wq hSw; clear hSw; go_simp; try with_reducible rfl)
    try simp only [Act.put, List.setIfInBounds_toArray, List.set_cons_zero, List.set_cons_succ]
    refine wpAnyH_take (i := 6) (oi := { dst := some 16, op := Op.load 9 (Operand.tmp 15), type := 9, pos := "ref.go:52", after := #[{ on := 5, ground := Ground.data }], guard := none }) (v := .string d) rfl (by kernel_rfl) (by kernel_rfl) (by kernel_rfl) (fun _ _ _ h => h) (Or.inl ⟨by rfl, ?q6h⟩) hHeld ?q6r
    case q6h => (intro wq hSw; have lq := hSw.at 0 rfl 1 (v := .string d) rfl; clear hSw; go_simp; try with_reducible rfl)
    try simp only [Act.put, List.setIfInBounds_toArray, List.set_cons_zero, List.set_cons_succ]
    refine wpAnyH_ready (rs := [4]) (by kernel_rfl) (by simp) ?_
    refine AllReadyH.cons (o := { dst := some 14, op := Op.call { callee := Callee.value (Operand.func 28), args := #[Operand.tmp 10, Operand.tmp 13, Operand.const (Value.int IntKind.i64 1)], argTypes := #[9, 3, 3] }, type := 9, pos := "ref.go:52", after := #[{ on := 0, ground := Ground.data }, { on := 3, ground := Ground.data }], guard := none }) rfl (fun K hK => ?_) (AllReadyH.nil)
    go_simp
    go_wp2_with (go_at_call 28; refine (rput_b s d.size 1 N _ HH.out HN.out).mono ?_; rintro e w4 ⟨t1, rfl, HT1, HZ1, hb⟩)
    have HS3 : Hid (Hp w [.ob (w.heap.size) 24 (clCells ⟨true, d⟩)] w4) := ((HS2.out).drew).calls hb
    refine hK.out _ _ (HS3.out.pick [0] rfl) (fun hHeld => ?_)
    clear hK K hb
    try simp only [Act.put, List.setIfInBounds_toArray, List.set_cons_zero, List.set_cons_succ]
    refine wpAnyH_take (i := 7) (oi := { dst := some 17, op := Op.binOp BinOp.add 9 (Operand.tmp 14) (Operand.tmp 16) 9, type := 9, pos := "ref.go:52", after := #[{ on := 4, ground := Ground.data }, { on := 6, ground := Ground.data }], guard := none }) (v := .string (t1 ++ d)) rfl (by kernel_rfl) (by kernel_rfl) (by kernel_rfl) (fun _ _ _ h => h) (Or.inl ⟨by rfl, ?q7h⟩) hHeld ?q7r
    case q7h => (intro wq hSw; have hz := HZ1.out; have hn := HN.out; have ha : ∀ W : World, Sem.run Try.prog (Op.stringOp .add t1 d) W = .ok (.string (t1 ++ d)) W := fun W => run_string_add_sum W _ _ (by omega); clear hSw hz hn; go_simp; try with_reducible rfl)
    try simp only [Act.put, List.setIfInBounds_toArray, List.set_cons_zero, List.set_cons_succ]
    refine wpAnyH_take (i := 8) (oi := { dst := some 4, op := Op.assign (Operand.tmp 17), type := 9, pos := "ref.go:52", after := #[{ on := 7, ground := Ground.data }, { on := 4, ground := Ground.chain }, { on := 0, ground := Ground.phase }, { on := 1, ground := Ground.phase }, { on := 2, ground := Ground.phase }, { on := 3, ground := Ground.phase }, { on := 4, ground := Ground.phase }, { on := 5, ground := Ground.phase }, { on := 6, ground := Ground.phase }, { on := 7, ground := Ground.phase }], guard := none }) (v := ?q8v) rfl (by kernel_rfl) (by kernel_rfl) (by kernel_rfl) (fun _ _ _ h => h) (Or.inl ⟨by rfl, ?q8h⟩) hHeld ?q8r
    case q8h => (intro wq hSw; clear hSw; go_simp; try with_reducible rfl)
    try simp only [Act.put, List.setIfInBounds_toArray, List.set_cons_zero, List.set_cons_succ]
    refine wpAnyH_done (by kernel_rfl) ?_ _
    go_wp2_with fail
    go_ret
    exact HT.out _ _ HT1.out HZ1.out (HS3.out).old
set_option maxHeartbeats 8000000 in
theorem encode_en (e : Ent) (w : World) (he : GoodEn e) : Calls Try.prog 12 #[.agg (enCells e).toArray] w fun r w' => r = .returned (.tuple #[.string (encE e).1, .int .i64 (encE e).2]) ∧ Below w.heap.size w w' := by
  obtain ⟨fsHUE, huHUE⟩ := under_en
  have HUE := Lib.hid huHUE
  clear huHUE
  obtain ⟨fsHUL, huHUL⟩ := under_cell
  have HUL := Lib.hid huHUL
  clear huHUL
  have HV := Lib.hid (fun W => valid_en e W he)
  have h1 := (Hp.start w).put 28 (enCells e)
  have HS0 : Hid (Hp w [.ob w.heap.size 28 (enCells e)] (w.alloc (.cells (enCells e).toArray 28))) := h1
  clear h1 he
  cases hv : entOkB e
  · have HF : Hid (encE e = (⟨#[]⟩, 12)) := Lib.hid (by unfold encE; rw [if_pos hv])
    rw [hv] at HV
    clear hv
    go_enter Try.func12, Try.ntmps12
    go_wp2_with (first | ((with_reducible refine wpList_load_ob 28 (.tmp 1) w.heap.size (enCells e) 28 HUE.out ?_ ?_ ?_ ?_ ?_); (exact rfl); (exact HS0.out.get 0 rfl); (exact rfl); (exact info_en); simp only [Act.put, List.setIfInBounds_toArray, List.set_cons_zero, List.set_cons_succ]))
    refine (HV.out _).mono ?_
    rintro r w2 ⟨rfl, hb⟩
    have HS1 := Lib.hid (HS0.out.calls hb)
    clear hb HS0
    go_wp2_with fail
    go_ret2
    exact ⟨by rw [HF.out]; rfl, HS1.out.old⟩
  · obtain ⟨z1, z2, z3⟩ := ent_small hv
    have HF : Hid (encE e = (enS e, 0)) := Lib.hid (by unfold encE; rw [if_neg (by rw [hv]; decide)])
    rw [hv] at HV
    clear hv
    go_enter Try.func12, Try.ntmps12
    go_upto_region 1 with (fail)
    have HS2 : Hid (Hp w [.ob (w.heap.size) 28 (enCells e)] (w.alloc (.cells (enCells e).toArray 28))) := HS0.out
    clear HS0
    generalize w.alloc (.cells (enCells e).toArray 28) = w3 at *
    go_wp2_with (first | ((with_reducible refine wpList_load_ob 28 (.tmp 1) (w.heap.size) (enCells e) 28 HUE.out ?_ ?_ ?_ ?_ ?_); (exact rfl); (exact (HS2.out).get 0 rfl); (exact rfl); (exact info_en); simp only [Act.put, List.setIfInBounds_toArray, List.set_cons_zero, List.set_cons_succ]))
    refine (HV.out _).mono ?_
    rintro e w4 ⟨rfl, hb⟩
    have HS3 : Hid (Hp w [.ob (w.heap.size) 28 (enCells e)] w4) := (HS2.out).calls hb
    clear hb
    clear HS2
    clear HV
    have c0 : w4.cell? ⟨(w.heap.size), 0, none⟩ = some (.int .i64 e.lsn) := (HS3.out).at 0 rfl 0 rfl
    go_wp2_with fail
    refine (put_b ⟨#[]⟩ e.lsn 8 0 _ (by decide) (by omega)).mono ?_
    rintro e w5 ⟨t1, rfl, HT1, HZ1, hb⟩
    have HS4 : Hid (Hp w [.ob (w.heap.size) 28 (enCells e)] w5) := (HS3.out).calls hb
    clear hb
    clear HS3
    clear c0
    have c1 : w5.cell? ⟨(w.heap.size), 1, none⟩ = some (.int .i64 e.kind) := (HS4.out).at 0 rfl 1 rfl
    go_wp2_with fail
    refine (put_b t1 e.kind 1 8 _ HZ1.out (by omega)).mono ?_
    rintro e w6 ⟨t2, rfl, HT2, HZ2, hb⟩
    have HS5 : Hid (Hp w [.ob (w.heap.size) 28 (enCells e)] w6) := (HS4.out).calls hb
    clear hb
    clear HS4
    clear c1
    have c2 : w6.cell? ⟨(w.heap.size), 2, none⟩ = some (.int .i64 e.tx) := (HS5.out).at 0 rfl 2 rfl
    go_wp2_with fail
    refine (put_b t2 e.tx 4 16 _ HZ2.out (by omega)).mono ?_
    rintro e w7 ⟨t3, rfl, HT3, HZ3, hb⟩
    have HS6 : Hid (Hp w [.ob (w.heap.size) 28 (enCells e)] w7) := (HS5.out).calls hb
    clear hb
    clear HS5
    clear c2
    have c3 : w7.cell? ⟨(w.heap.size), 3, none⟩ = some (.int .i64 e.ptx) := (HS6.out).at 0 rfl 3 rfl
    go_wp2_with fail
    refine (put_b t3 e.ptx 8 24 _ HZ3.out (by omega)).mono ?_
    rintro e w8 ⟨t4, rfl, HT4, HZ4, hb⟩
    have HS7 : Hid (Hp w [.ob (w.heap.size) 28 (enCells e)] w8) := (HS6.out).calls hb
    clear hb
    clear HS6
    clear c3
    have c4 : w8.cell? ⟨(w.heap.size), 4, none⟩ = some (.int .i64 e.ppg) := (HS7.out).at 0 rfl 4 rfl
    go_wp2_with fail
    refine (put_b t4 e.ppg 8 32 _ HZ4.out (by omega)).mono ?_
    rintro e w9 ⟨t5, rfl, HT5, HZ5, hb⟩
    have HS8 : Hid (Hp w [.ob (w.heap.size) 28 (enCells e)] w9) := (HS7.out).calls hb
    clear hb
    clear HS7
    clear c4
    have c5 : w9.cell? ⟨(w.heap.size), 5, none⟩ = some (.int .i64 e.ref) := (HS8.out).at 0 rfl 5 rfl
    go_wp2_with fail
    refine (put_b t5 e.ref 8 40 _ HZ5.out (by omega)).mono ?_
    rintro e w10 ⟨t6, rfl, HT6, HZ6, hb⟩
    have HS9 : Hid (Hp w [.ob (w.heap.size) 28 (enCells e)] w10) := (HS8.out).calls hb
    clear hb
    clear HS8
    clear c5
    have c6 : w10.cell? ⟨(w.heap.size), 6, none⟩ = some (.int .i64 e.ch.page) := (HS9.out).at 0 rfl 6 rfl
    go_wp2_with fail
    refine (put_b t6 e.ch.page 4 48 _ HZ6.out (by omega)).mono ?_
    rintro e w11 ⟨t7, rfl, HT7, HZ7, hb⟩
    have HS10 : Hid (Hp w [.ob (w.heap.size) 28 (enCells e)] w11) := (HS9.out).calls hb
    clear hb
    clear HS9
    clear c6
    have c7 : w11.cell? ⟨(w.heap.size), 7, none⟩ = some (.int .i64 e.ch.slot) := (HS10.out).at 0 rfl 7 rfl
    go_wp2_with fail
    refine (put_b t7 e.ch.slot 1 56 _ HZ7.out (by omega)).mono ?_
    rintro e w12 ⟨t8, rfl, HT8, HZ8, hb⟩
    have HS11 : Hid (Hp w [.ob (w.heap.size) 28 (enCells e)] w12) := (HS10.out).calls hb
    clear hb
    clear HS10
    clear c7
    go_wp2_with (first | ((with_reducible refine wpList_load_at 24 (.tmp 43) (w.heap.size) (8) (clCells e.ch.before) HUL.out ?_ ?_ ?_ ?_ ?_); (exact rfl); (exact (HS11.out).mid 0 rfl (8) _ ((mid_8 e))); (exact rfl); (exact info_cl); simp only [Act.put, List.setIfInBounds_toArray, List.set_cons_zero, List.set_cons_succ]))
    refine (putCell_b t8 e.ch.before 64 _ HZ8.out (by omega) z1).mono ?_
    rintro e w13 ⟨t9, rfl, HT9, HZ9, hb⟩
    have HS12 : Hid (Hp w [.ob (w.heap.size) 28 (enCells e)] w13) := (HS11.out).calls hb
    clear hb
    clear HS11
    go_wp2_with (first | ((with_reducible refine wpList_load_at 24 (.tmp 48) (w.heap.size) (10) (clCells e.ch.after) HUL.out ?_ ?_ ?_ ?_ ?_); (exact rfl); (exact (HS12.out).mid 0 rfl (10) _ ((mid_10 e))); (exact rfl); (exact info_cl); simp only [Act.put, List.setIfInBounds_toArray, List.set_cons_zero, List.set_cons_succ]))
    refine (putCell_b t9 e.ch.after 84 _ HZ9.out (by omega) z2).mono ?_
    rintro e w14 ⟨t10, rfl, HT10, HZ10, hb⟩
    have HS13 : Hid (Hp w [.ob (w.heap.size) 28 (enCells e)] w14) := (HS12.out).calls hb
    clear hb
    clear HS12
    go_upto_region 13 with (fail)
    refine wp_region_held_drew (S := fun w' => Hold w.heap.size [.ob (w.heap.size) 28 (enCells e)] w') (by kernel_rfl) ((HS13.out).drew.pick [0] rfl) (fun hHeld => ?_)
    refine wpAnyH_take (i := 0) (oi := { dst := some 51, op := Op.move (Operand.tmp 4), type := 9, pos := "entry.go:102", after := #[], guard := none }) (v := ?q1v) rfl (by kernel_rfl) (by kernel_rfl) (by kernel_rfl) (fun _ _ _ h => h) (Or.inl ⟨by rfl, ?q1h⟩) hHeld ?q1r
    case q1h => (intro wq hSw; clear hSw; go_simp; try with_reducible rfl)
    try simp only [Act.put, List.setIfInBounds_toArray, List.set_cons_zero, List.set_cons_succ]
    refine wpAnyH_take (i := 1) (oi := { dst := some 52, op := Op.fieldAddr 28 (Operand.tmp 1) 7, type := 0, pos := "entry.go:102", after := #[], guard := none }) (v := ?q2v) rfl (by kernel_rfl) (by kernel_rfl) (by kernel_rfl) (fun _ _ _ h => h) (Or.inl ⟨by rfl, ?q2h⟩) hHeld ?q2r
    case q2h => (intro wq hSw; clear hSw; go_simp; try with_reducible rfl)
    try simp only [Act.put, List.setIfInBounds_toArray, List.set_cons_zero, List.set_cons_succ]
    refine wpAnyH_take (i := 2) (oi := { dst := some 53, op := Op.load 9 (Operand.tmp 52), type := 9, pos := "entry.go:102", after := #[{ on := 1, ground := Ground.data }], guard := none }) (v := .string e.blob) rfl (by kernel_rfl) (by kernel_rfl) (by kernel_rfl) (fun _ _ _ h => h) (Or.inl ⟨by rfl, ?q3h⟩) hHeld ?q3r
    case q3h => (intro wq hSw; have lq := hSw.at 0 rfl 12 (v := .string e.blob) rfl; clear hSw; go_simp; try with_reducible rfl)
    try simp only [Act.put, List.setIfInBounds_toArray, List.set_cons_zero, List.set_cons_succ]
    refine wpAnyH_take (i := 3) (oi := { dst := some 54, op := Op.call { callee := Callee.builtin Builtin.len, args := #[Operand.tmp 53], argTypes := #[9] }, type := 3, pos := "entry.go:102", after := #[{ on := 2, ground := Ground.data }], guard := none }) (v := ?q4v) rfl (by kernel_rfl) (by kernel_rfl) (by kernel_rfl) (fun _ _ _ h => h) (Or.inl ⟨by rfl, ?q4h⟩) hHeld ?q4r
    case q4h => (intro wq hSw; clear hSw; go_simp; try with_reducible rfl)
    try simp only [Act.put, List.setIfInBounds_toArray, List.set_cons_zero, List.set_cons_succ]
    refine wpAnyH_take (i := 5) (oi := { dst := some 56, op := Op.fieldAddr 28 (Operand.tmp 1) 7, type := 0, pos := "entry.go:102", after := #[], guard := none }) (v := ?q5v) rfl (by kernel_rfl) (by kernel_rfl) (by kernel_rfl) (fun _ _ _ h => h) (Or.inl ⟨by rfl, ?q5h⟩) hHeld ?q5r
    case q5h => (intro wq hSw; clear hSw; go_simp; try with_reducible rfl)
    try simp only [Act.put, List.setIfInBounds_toArray, List.set_cons_zero, List.set_cons_succ]
    refine wpAnyH_take (i := 6) (oi := { dst := some 57, op := Op.load 9 (Operand.tmp 56), type := 9, pos := "entry.go:102", after := #[{ on := 5, ground := Ground.data }], guard := none }) (v := .string e.blob) rfl (by kernel_rfl) (by kernel_rfl) (by kernel_rfl) (fun _ _ _ h => h) (Or.inl ⟨by rfl, ?q6h⟩) hHeld ?q6r
    case q6h => (intro wq hSw; have lq := hSw.at 0 rfl 12 (v := .string e.blob) rfl; clear hSw; go_simp; try with_reducible rfl)
    try simp only [Act.put, List.setIfInBounds_toArray, List.set_cons_zero, List.set_cons_succ]
    refine wpAnyH_ready (rs := [4]) (by kernel_rfl) (by simp) ?_
    refine AllReadyH.cons (o := { dst := some 55, op := Op.call { callee := Callee.value (Operand.func 26), args := #[Operand.tmp 51, Operand.tmp 54, Operand.const (Value.int IntKind.i64 4)], argTypes := #[9, 3, 3] }, type := 9, pos := "entry.go:102", after := #[{ on := 0, ground := Ground.data }, { on := 3, ground := Ground.data }], guard := none }) rfl (fun K hK => ?_) (AllReadyH.nil)
    go_simp
    go_wp2_with (go_at_call 26; refine (put_b t10 e.blob.size 4 104 _ HZ10.out (by omega)).mono ?_; rintro e w15 ⟨t11, rfl, HT11, HZ11, hb⟩)
    have HS14 : Hid (Hp w [.ob (w.heap.size) 28 (enCells e)] w15) := ((HS13.out).drew).calls hb
    refine hK.out _ _ (HS14.out.pick [0] rfl) (fun hHeld => ?_)
    clear hK K hb
    try simp only [Act.put, List.setIfInBounds_toArray, List.set_cons_zero, List.set_cons_succ]
    refine wpAnyH_take (i := 7) (oi := { dst := some 58, op := Op.binOp BinOp.add 9 (Operand.tmp 55) (Operand.tmp 57) 9, type := 9, pos := "entry.go:102", after := #[{ on := 4, ground := Ground.data }, { on := 6, ground := Ground.data }], guard := none }) (v := .string (t11 ++ e.blob)) rfl (by kernel_rfl) (by kernel_rfl) (by kernel_rfl) (fun _ _ _ h => h) (Or.inl ⟨by rfl, ?q7h⟩) hHeld ?q7r
    case q7h => (intro wq hSw; have hz := HZ11.out; have ha : ∀ W : World, Sem.run Try.prog (Op.stringOp .add t11 e.blob) W = .ok (.string (t11 ++ e.blob)) W := fun W => run_string_add_sum W _ _ (by omega); clear hSw hz; go_simp; try with_reducible rfl)
    try simp only [Act.put, List.setIfInBounds_toArray, List.set_cons_zero, List.set_cons_succ]
    refine wpAnyH_take (i := 8) (oi := { dst := some 2, op := Op.assign (Operand.tmp 58), type := 9, pos := "entry.go:102", after := #[{ on := 7, ground := Ground.data }, { on := 4, ground := Ground.chain }, { on := 0, ground := Ground.phase }, { on := 1, ground := Ground.phase }, { on := 2, ground := Ground.phase }, { on := 3, ground := Ground.phase }, { on := 4, ground := Ground.phase }, { on := 5, ground := Ground.phase }, { on := 6, ground := Ground.phase }, { on := 7, ground := Ground.phase }], guard := none }) (v := ?q8v) rfl (by kernel_rfl) (by kernel_rfl) (by kernel_rfl) (fun _ _ _ h => h) (Or.inl ⟨by rfl, ?q8h⟩) hHeld ?q8r
    case q8h => (intro wq hSw; clear hSw; go_simp; try with_reducible rfl)
    try simp only [Act.put, List.setIfInBounds_toArray, List.set_cons_zero, List.set_cons_succ]
    refine wpAnyH_take (i := 9) (oi := { dst := some 3, op := Op.assign (Operand.const (Value.int IntKind.i64 0)), type := 35, pos := "entry.go:102", after := #[{ on := 8, ground := Ground.chain }, { on := 0, ground := Ground.phase }, { on := 1, ground := Ground.phase }, { on := 2, ground := Ground.phase }, { on := 3, ground := Ground.phase }, { on := 4, ground := Ground.phase }, { on := 5, ground := Ground.phase }, { on := 6, ground := Ground.phase }, { on := 7, ground := Ground.phase }, { on := 8, ground := Ground.phase }], guard := none }) (v := ?q9v) rfl (by kernel_rfl) (by kernel_rfl) (by kernel_rfl) (fun _ _ _ h => h) (Or.inl ⟨by rfl, ?q9h⟩) hHeld ?q9r
    case q9h => (intro wq hSw; clear hSw; go_simp; try with_reducible rfl)
    try simp only [Act.put, List.setIfInBounds_toArray, List.set_cons_zero, List.set_cons_succ]
    refine wpAnyH_done (by kernel_rfl) ?_ _
    go_wp2_with fail
    go_ret2
    refine ⟨?_, (HS14.out).old⟩
    have HQ : t11 ++ e.blob = enS e := by unfold enS headP; rw [HT11.out, HT10.out, HT9.out, HT8.out, HT7.out, HT6.out, HT5.out, HT4.out, HT3.out, HT2.out, HT1.out]
    rw [HF.out, ← HQ]
    rfl
set_option maxHeartbeats 8000000 in
theorem rencode_en (e : Ent) (w : World) (he : GoodEn e) : Calls Try.prog 13 #[.agg (enCells e).toArray] w fun r w' => r = .returned (.tuple #[.string (encE e).1, .int .i64 (encE e).2]) ∧ Below w.heap.size w w' := by
  obtain ⟨fsHUE, huHUE⟩ := under_en
  have HUE := Lib.hid huHUE
  clear huHUE
  obtain ⟨fsHUL, huHUL⟩ := under_cell
  have HUL := Lib.hid huHUL
  clear huHUL
  have HV := Lib.hid (fun W => rvalid_en e W he)
  have h1 := (Hp.start w).put 28 (enCells e)
  have HS0 : Hid (Hp w [.ob w.heap.size 28 (enCells e)] (w.alloc (.cells (enCells e).toArray 28))) := h1
  clear h1 he
  cases hv : entOkB e
  · have HF : Hid (encE e = (⟨#[]⟩, 12)) := Lib.hid (by unfold encE; rw [if_pos hv])
    rw [hv] at HV
    clear hv
    go_enter Try.func13, Try.ntmps13
    go_wp2_with (first | ((with_reducible refine wpList_load_ob 28 (.tmp 1) w.heap.size (enCells e) 28 HUE.out ?_ ?_ ?_ ?_ ?_); (exact rfl); (exact HS0.out.get 0 rfl); (exact rfl); (exact info_en); simp only [Act.put, List.setIfInBounds_toArray, List.set_cons_zero, List.set_cons_succ]))
    refine (HV.out _).mono ?_
    rintro r w2 ⟨rfl, hb⟩
    have HS1 := Lib.hid (HS0.out.calls hb)
    clear hb HS0
    go_wp2_with fail
    go_ret2
    exact ⟨by rw [HF.out]; rfl, HS1.out.old⟩
  · obtain ⟨z1, z2, z3⟩ := ent_small hv
    have HF : Hid (encE e = (enS e, 0)) := Lib.hid (by unfold encE; rw [if_neg (by rw [hv]; decide)])
    rw [hv] at HV
    clear hv
    go_enter Try.func13, Try.ntmps13
    go_upto_region 1 with (fail)
    have HS2 : Hid (Hp w [.ob (w.heap.size) 28 (enCells e)] (w.alloc (.cells (enCells e).toArray 28))) := HS0.out
    clear HS0
    generalize w.alloc (.cells (enCells e).toArray 28) = w3 at *
    go_wp2_with (first | ((with_reducible refine wpList_load_ob 28 (.tmp 1) (w.heap.size) (enCells e) 28 HUE.out ?_ ?_ ?_ ?_ ?_); (exact rfl); (exact (HS2.out).get 0 rfl); (exact rfl); (exact info_en); simp only [Act.put, List.setIfInBounds_toArray, List.set_cons_zero, List.set_cons_succ]))
    refine (HV.out _).mono ?_
    rintro e w4 ⟨rfl, hb⟩
    have HS3 : Hid (Hp w [.ob (w.heap.size) 28 (enCells e)] w4) := (HS2.out).calls hb
    clear hb
    clear HS2
    clear HV
    have c0 : w4.cell? ⟨(w.heap.size), 0, none⟩ = some (.int .i64 e.lsn) := (HS3.out).at 0 rfl 0 rfl
    go_wp2_with fail
    refine (rput_b ⟨#[]⟩ e.lsn 8 0 _ (by decide) (by omega)).mono ?_
    rintro e w5 ⟨t1, rfl, HT1, HZ1, hb⟩
    have HS4 : Hid (Hp w [.ob (w.heap.size) 28 (enCells e)] w5) := (HS3.out).calls hb
    clear hb
    clear HS3
    clear c0
    have c1 : w5.cell? ⟨(w.heap.size), 1, none⟩ = some (.int .i64 e.kind) := (HS4.out).at 0 rfl 1 rfl
    go_wp2_with fail
    refine (rput_b t1 e.kind 1 8 _ HZ1.out (by omega)).mono ?_
    rintro e w6 ⟨t2, rfl, HT2, HZ2, hb⟩
    have HS5 : Hid (Hp w [.ob (w.heap.size) 28 (enCells e)] w6) := (HS4.out).calls hb
    clear hb
    clear HS4
    clear c1
    have c2 : w6.cell? ⟨(w.heap.size), 2, none⟩ = some (.int .i64 e.tx) := (HS5.out).at 0 rfl 2 rfl
    go_wp2_with fail
    refine (rput_b t2 e.tx 4 16 _ HZ2.out (by omega)).mono ?_
    rintro e w7 ⟨t3, rfl, HT3, HZ3, hb⟩
    have HS6 : Hid (Hp w [.ob (w.heap.size) 28 (enCells e)] w7) := (HS5.out).calls hb
    clear hb
    clear HS5
    clear c2
    have c3 : w7.cell? ⟨(w.heap.size), 3, none⟩ = some (.int .i64 e.ptx) := (HS6.out).at 0 rfl 3 rfl
    go_wp2_with fail
    refine (rput_b t3 e.ptx 8 24 _ HZ3.out (by omega)).mono ?_
    rintro e w8 ⟨t4, rfl, HT4, HZ4, hb⟩
    have HS7 : Hid (Hp w [.ob (w.heap.size) 28 (enCells e)] w8) := (HS6.out).calls hb
    clear hb
    clear HS6
    clear c3
    have c4 : w8.cell? ⟨(w.heap.size), 4, none⟩ = some (.int .i64 e.ppg) := (HS7.out).at 0 rfl 4 rfl
    go_wp2_with fail
    refine (rput_b t4 e.ppg 8 32 _ HZ4.out (by omega)).mono ?_
    rintro e w9 ⟨t5, rfl, HT5, HZ5, hb⟩
    have HS8 : Hid (Hp w [.ob (w.heap.size) 28 (enCells e)] w9) := (HS7.out).calls hb
    clear hb
    clear HS7
    clear c4
    have c5 : w9.cell? ⟨(w.heap.size), 5, none⟩ = some (.int .i64 e.ref) := (HS8.out).at 0 rfl 5 rfl
    go_wp2_with fail
    refine (rput_b t5 e.ref 8 40 _ HZ5.out (by omega)).mono ?_
    rintro e w10 ⟨t6, rfl, HT6, HZ6, hb⟩
    have HS9 : Hid (Hp w [.ob (w.heap.size) 28 (enCells e)] w10) := (HS8.out).calls hb
    clear hb
    clear HS8
    clear c5
    have c6 : w10.cell? ⟨(w.heap.size), 6, none⟩ = some (.int .i64 e.ch.page) := (HS9.out).at 0 rfl 6 rfl
    go_wp2_with fail
    refine (rput_b t6 e.ch.page 4 48 _ HZ6.out (by omega)).mono ?_
    rintro e w11 ⟨t7, rfl, HT7, HZ7, hb⟩
    have HS10 : Hid (Hp w [.ob (w.heap.size) 28 (enCells e)] w11) := (HS9.out).calls hb
    clear hb
    clear HS9
    clear c6
    have c7 : w11.cell? ⟨(w.heap.size), 7, none⟩ = some (.int .i64 e.ch.slot) := (HS10.out).at 0 rfl 7 rfl
    go_wp2_with fail
    refine (rput_b t7 e.ch.slot 1 56 _ HZ7.out (by omega)).mono ?_
    rintro e w12 ⟨t8, rfl, HT8, HZ8, hb⟩
    have HS11 : Hid (Hp w [.ob (w.heap.size) 28 (enCells e)] w12) := (HS10.out).calls hb
    clear hb
    clear HS10
    clear c7
    go_upto_region 11 with (fail)
    refine wp_region_held_drew (S := fun w' => Hold w.heap.size [.ob (w.heap.size) 28 (enCells e)] w') (by kernel_rfl) ((HS11.out).drew.pick [0] rfl) (fun hHeld => ?_)
    refine wpAnyH_take (i := 0) (oi := { dst := some 41, op := Op.move (Operand.tmp 4), type := 9, pos := "ref.go:68", after := #[], guard := none }) (v := ?q1v) rfl (by kernel_rfl) (by kernel_rfl) (by kernel_rfl) (fun _ _ _ h => h) (Or.inl ⟨by rfl, ?q1h⟩) hHeld ?q1r
    case q1h => (intro wq hSw; clear hSw; go_simp; try with_reducible rfl)
    try simp only [Act.put, List.setIfInBounds_toArray, List.set_cons_zero, List.set_cons_succ]
    refine wpAnyH_take (i := 1) (oi := { dst := some 42, op := Op.fieldAddr 28 (Operand.tmp 1) 6, type := 0, pos := "ref.go:68", after := #[], guard := none }) (v := ?q2v) rfl (by kernel_rfl) (by kernel_rfl) (by kernel_rfl) (fun _ _ _ h => h) (Or.inl ⟨by rfl, ?q2h⟩) hHeld ?q2r
    case q2h => (intro wq hSw; clear hSw; go_simp; try with_reducible rfl)
    try simp only [Act.put, List.setIfInBounds_toArray, List.set_cons_zero, List.set_cons_succ]
    refine wpAnyH_take (i := 2) (oi := { dst := some 43, op := Op.fieldAddr 26 (Operand.tmp 42) 2, type := 0, pos := "ref.go:68", after := #[{ on := 1, ground := Ground.data }], guard := none }) (v := ?q3v) rfl (by kernel_rfl) (by kernel_rfl) (by kernel_rfl) (fun _ _ _ h => h) (Or.inl ⟨by rfl, ?q3h⟩) hHeld ?q3r
    case q3h => (intro wq hSw; clear hSw; go_simp; try with_reducible rfl)
    try simp only [Act.put, List.setIfInBounds_toArray, List.set_cons_zero, List.set_cons_succ]
    refine wpAnyH_take (i := 3) (oi := { dst := some 44, op := Op.load 24 (Operand.tmp 43), type := 24, pos := "ref.go:68", after := #[{ on := 2, ground := Ground.data }], guard := none }) rfl (by kernel_rfl) (by kernel_rfl) (by kernel_rfl) (fun _ _ _ h => h) (yieldsIf_load_mid (by rfl) 24 (.tmp 43) rfl (w.heap.size) (8) rfl (clCells e.ch.before) _ (fun _ h => h.mid 0 rfl (8) _ ((mid_8 e))) HUL.out rfl (info_cl)) hHeld ?_
    try simp only [Act.put, List.setIfInBounds_toArray, List.set_cons_zero, List.set_cons_succ]
    refine wpAnyH_take (i := 5) (oi := { dst := some 46, op := Op.fieldAddr 28 (Operand.tmp 1) 6, type := 0, pos := "ref.go:68", after := #[], guard := none }) (v := ?q5v) rfl (by kernel_rfl) (by kernel_rfl) (by kernel_rfl) (fun _ _ _ h => h) (Or.inl ⟨by rfl, ?q5h⟩) hHeld ?q5r
    case q5h => (intro wq hSw; clear hSw; go_simp; try with_reducible rfl)
    try simp only [Act.put, List.setIfInBounds_toArray, List.set_cons_zero, List.set_cons_succ]
    refine wpAnyH_take (i := 6) (oi := { dst := some 47, op := Op.fieldAddr 26 (Operand.tmp 46) 3, type := 0, pos := "ref.go:68", after := #[{ on := 5, ground := Ground.data }], guard := none }) (v := ?q6v) rfl (by kernel_rfl) (by kernel_rfl) (by kernel_rfl) (fun _ _ _ h => h) (Or.inl ⟨by rfl, ?q6h⟩) hHeld ?q6r
    case q6h => (intro wq hSw; clear hSw; go_simp; try with_reducible rfl)
    try simp only [Act.put, List.setIfInBounds_toArray, List.set_cons_zero, List.set_cons_succ]
    refine wpAnyH_take (i := 7) (oi := { dst := some 48, op := Op.load 24 (Operand.tmp 47), type := 24, pos := "ref.go:68", after := #[{ on := 6, ground := Ground.data }], guard := none }) rfl (by kernel_rfl) (by kernel_rfl) (by kernel_rfl) (fun _ _ _ h => h) (yieldsIf_load_mid (by rfl) 24 (.tmp 47) rfl (w.heap.size) (10) rfl (clCells e.ch.after) _ (fun _ h => h.mid 0 rfl (10) _ ((mid_10 e))) HUL.out rfl (info_cl)) hHeld ?_
    try simp only [Act.put, List.setIfInBounds_toArray, List.set_cons_zero, List.set_cons_succ]
    refine wpAnyH_ready (rs := [4]) (by kernel_rfl) (by simp) ?_
    refine AllReadyH.cons (o := { dst := some 45, op := Op.call { callee := Callee.value (Operand.func 29), args := #[Operand.tmp 41, Operand.tmp 44], argTypes := #[9, 24] }, type := 9, pos := "ref.go:68", after := #[{ on := 0, ground := Ground.data }, { on := 3, ground := Ground.data }], guard := none }) rfl (fun K hK => ?_) (AllReadyH.nil)
    go_simp
    go_wp2_with (go_at_call 29; refine (rcell_b t8 e.ch.before 64 _ HZ8.out (by omega) z1).mono ?_; rintro e w13 ⟨t9, rfl, HT9, HZ9, hb⟩)
    have HS12 : Hid (Hp w [.ob (w.heap.size) 28 (enCells e)] w13) := ((HS11.out).drew).calls hb
    refine hK.out _ _ (HS12.out.pick [0] rfl) (fun hHeld => ?_)
    clear hK K hb
    try simp only [Act.put, List.setIfInBounds_toArray, List.set_cons_zero, List.set_cons_succ]
    refine wpAnyH_ready (rs := [8]) (by kernel_rfl) (by simp) ?_
    refine AllReadyH.cons (o := { dst := some 49, op := Op.call { callee := Callee.value (Operand.func 29), args := #[Operand.tmp 45, Operand.tmp 48], argTypes := #[9, 24] }, type := 9, pos := "ref.go:68", after := #[{ on := 4, ground := Ground.data }, { on := 7, ground := Ground.data }, { on := 4, ground := Ground.chain }], guard := none }) rfl (fun K hK => ?_) (AllReadyH.nil)
    go_simp
    go_wp2_with (go_at_call 29; refine (rcell_b t9 e.ch.after 84 _ HZ9.out (by omega) z2).mono ?_; rintro e w14 ⟨t10, rfl, HT10, HZ10, hb⟩)
    have HS13 : Hid (Hp w [.ob (w.heap.size) 28 (enCells e)] w14) := (HS12.out).calls hb
    refine hK.out _ _ (HS13.out.pick [0] rfl) (fun hHeld => ?_)
    clear hK K hb
    try simp only [Act.put, List.setIfInBounds_toArray, List.set_cons_zero, List.set_cons_succ]
    refine wpAnyH_take (i := 9) (oi := { dst := some 4, op := Op.assign (Operand.tmp 49), type := 9, pos := "ref.go:68", after := #[{ on := 8, ground := Ground.data }, { on := 8, ground := Ground.chain }, { on := 0, ground := Ground.phase }, { on := 1, ground := Ground.phase }, { on := 2, ground := Ground.phase }, { on := 3, ground := Ground.phase }, { on := 4, ground := Ground.phase }, { on := 5, ground := Ground.phase }, { on := 6, ground := Ground.phase }, { on := 7, ground := Ground.phase }, { on := 8, ground := Ground.phase }], guard := none }) (v := ?q8v) rfl (by kernel_rfl) (by kernel_rfl) (by kernel_rfl) (fun _ _ _ h => h) (Or.inl ⟨by rfl, ?q8h⟩) hHeld ?q8r
    case q8h => (intro wq hSw; clear hSw; go_simp; try with_reducible rfl)
    try simp only [Act.put, List.setIfInBounds_toArray, List.set_cons_zero, List.set_cons_succ]
    refine wpAnyH_done (by kernel_rfl) ?_ _
    go_upto_region 12 with (fail)
    refine wp_region_held_drew (S := fun w' => Hold w.heap.size [.ob (w.heap.size) 28 (enCells e)] w') (by kernel_rfl) ((HS13.out).drew.pick [0] rfl) (fun hHeld => ?_)
    refine wpAnyH_take (i := 0) (oi := { dst := some 50, op := Op.move (Operand.tmp 4), type := 9, pos := "ref.go:69", after := #[], guard := none }) (v := ?q9v) rfl (by kernel_rfl) (by kernel_rfl) (by kernel_rfl) (fun _ _ _ h => h) (Or.inl ⟨by rfl, ?q9h⟩) hHeld ?q9r
    case q9h => (intro wq hSw; clear hSw; go_simp; try with_reducible rfl)
    try simp only [Act.put, List.setIfInBounds_toArray, List.set_cons_zero, List.set_cons_succ]
    refine wpAnyH_take (i := 1) (oi := { dst := some 51, op := Op.fieldAddr 28 (Operand.tmp 1) 7, type := 0, pos := "ref.go:69", after := #[], guard := none }) (v := ?q10v) rfl (by kernel_rfl) (by kernel_rfl) (by kernel_rfl) (fun _ _ _ h => h) (Or.inl ⟨by rfl, ?q10h⟩) hHeld ?q10r
    case q10h => (intro wq hSw; clear hSw; go_simp; try with_reducible rfl)
    try simp only [Act.put, List.setIfInBounds_toArray, List.set_cons_zero, List.set_cons_succ]
    refine wpAnyH_take (i := 2) (oi := { dst := some 52, op := Op.load 9 (Operand.tmp 51), type := 9, pos := "ref.go:69", after := #[{ on := 1, ground := Ground.data }], guard := none }) (v := .string e.blob) rfl (by kernel_rfl) (by kernel_rfl) (by kernel_rfl) (fun _ _ _ h => h) (Or.inl ⟨by rfl, ?q11h⟩) hHeld ?q11r
    case q11h => (intro wq hSw; have lq := hSw.at 0 rfl 12 (v := .string e.blob) rfl; clear hSw; go_simp; try with_reducible rfl)
    try simp only [Act.put, List.setIfInBounds_toArray, List.set_cons_zero, List.set_cons_succ]
    refine wpAnyH_take (i := 3) (oi := { dst := some 53, op := Op.call { callee := Callee.builtin Builtin.len, args := #[Operand.tmp 52], argTypes := #[9] }, type := 3, pos := "ref.go:69", after := #[{ on := 2, ground := Ground.data }], guard := none }) (v := ?q12v) rfl (by kernel_rfl) (by kernel_rfl) (by kernel_rfl) (fun _ _ _ h => h) (Or.inl ⟨by rfl, ?q12h⟩) hHeld ?q12r
    case q12h => (intro wq hSw; clear hSw; go_simp; try with_reducible rfl)
    try simp only [Act.put, List.setIfInBounds_toArray, List.set_cons_zero, List.set_cons_succ]
    refine wpAnyH_take (i := 5) (oi := { dst := some 55, op := Op.fieldAddr 28 (Operand.tmp 1) 7, type := 0, pos := "ref.go:69", after := #[], guard := none }) (v := ?q13v) rfl (by kernel_rfl) (by kernel_rfl) (by kernel_rfl) (fun _ _ _ h => h) (Or.inl ⟨by rfl, ?q13h⟩) hHeld ?q13r
    case q13h => (intro wq hSw; clear hSw; go_simp; try with_reducible rfl)
    try simp only [Act.put, List.setIfInBounds_toArray, List.set_cons_zero, List.set_cons_succ]
    refine wpAnyH_take (i := 6) (oi := { dst := some 56, op := Op.load 9 (Operand.tmp 55), type := 9, pos := "ref.go:69", after := #[{ on := 5, ground := Ground.data }], guard := none }) (v := .string e.blob) rfl (by kernel_rfl) (by kernel_rfl) (by kernel_rfl) (fun _ _ _ h => h) (Or.inl ⟨by rfl, ?q14h⟩) hHeld ?q14r
    case q14h => (intro wq hSw; have lq := hSw.at 0 rfl 12 (v := .string e.blob) rfl; clear hSw; go_simp; try with_reducible rfl)
    try simp only [Act.put, List.setIfInBounds_toArray, List.set_cons_zero, List.set_cons_succ]
    refine wpAnyH_ready (rs := [4]) (by kernel_rfl) (by simp) ?_
    refine AllReadyH.cons (o := { dst := some 54, op := Op.call { callee := Callee.value (Operand.func 28), args := #[Operand.tmp 50, Operand.tmp 53, Operand.const (Value.int IntKind.i64 4)], argTypes := #[9, 3, 3] }, type := 9, pos := "ref.go:69", after := #[{ on := 0, ground := Ground.data }, { on := 3, ground := Ground.data }], guard := none }) rfl (fun K hK => ?_) (AllReadyH.nil)
    go_simp
    go_wp2_with (go_at_call 28; refine (rput_b t10 e.blob.size 4 104 _ HZ10.out (by omega)).mono ?_; rintro e w15 ⟨t11, rfl, HT11, HZ11, hb⟩)
    have HS14 : Hid (Hp w [.ob (w.heap.size) 28 (enCells e)] w15) := ((HS13.out).drew).calls hb
    refine hK.out _ _ (HS14.out.pick [0] rfl) (fun hHeld => ?_)
    clear hK K hb
    try simp only [Act.put, List.setIfInBounds_toArray, List.set_cons_zero, List.set_cons_succ]
    refine wpAnyH_take (i := 7) (oi := { dst := some 57, op := Op.binOp BinOp.add 9 (Operand.tmp 54) (Operand.tmp 56) 9, type := 9, pos := "ref.go:69", after := #[{ on := 4, ground := Ground.data }, { on := 6, ground := Ground.data }], guard := none }) (v := .string (t11 ++ e.blob)) rfl (by kernel_rfl) (by kernel_rfl) (by kernel_rfl) (fun _ _ _ h => h) (Or.inl ⟨by rfl, ?q15h⟩) hHeld ?q15r
    case q15h => (intro wq hSw; have hz := HZ11.out; have ha : ∀ W : World, Sem.run Try.prog (Op.stringOp .add t11 e.blob) W = .ok (.string (t11 ++ e.blob)) W := fun W => run_string_add_sum W _ _ (by omega); clear hSw hz; go_simp; try with_reducible rfl)
    try simp only [Act.put, List.setIfInBounds_toArray, List.set_cons_zero, List.set_cons_succ]
    refine wpAnyH_take (i := 8) (oi := { dst := some 2, op := Op.assign (Operand.tmp 57), type := 9, pos := "ref.go:69", after := #[{ on := 7, ground := Ground.data }, { on := 4, ground := Ground.chain }, { on := 0, ground := Ground.phase }, { on := 1, ground := Ground.phase }, { on := 2, ground := Ground.phase }, { on := 3, ground := Ground.phase }, { on := 4, ground := Ground.phase }, { on := 5, ground := Ground.phase }, { on := 6, ground := Ground.phase }, { on := 7, ground := Ground.phase }], guard := none }) (v := ?q16v) rfl (by kernel_rfl) (by kernel_rfl) (by kernel_rfl) (fun _ _ _ h => h) (Or.inl ⟨by rfl, ?q16h⟩) hHeld ?q16r
    case q16h => (intro wq hSw; clear hSw; go_simp; try with_reducible rfl)
    try simp only [Act.put, List.setIfInBounds_toArray, List.set_cons_zero, List.set_cons_succ]
    refine wpAnyH_take (i := 9) (oi := { dst := some 3, op := Op.assign (Operand.const (Value.int IntKind.i64 0)), type := 35, pos := "ref.go:69", after := #[{ on := 8, ground := Ground.chain }, { on := 0, ground := Ground.phase }, { on := 1, ground := Ground.phase }, { on := 2, ground := Ground.phase }, { on := 3, ground := Ground.phase }, { on := 4, ground := Ground.phase }, { on := 5, ground := Ground.phase }, { on := 6, ground := Ground.phase }, { on := 7, ground := Ground.phase }, { on := 8, ground := Ground.phase }], guard := none }) (v := ?q17v) rfl (by kernel_rfl) (by kernel_rfl) (by kernel_rfl) (fun _ _ _ h => h) (Or.inl ⟨by rfl, ?q17h⟩) hHeld ?q17r
    case q17h => (intro wq hSw; clear hSw; go_simp; try with_reducible rfl)
    try simp only [Act.put, List.setIfInBounds_toArray, List.set_cons_zero, List.set_cons_succ]
    refine wpAnyH_done (by kernel_rfl) ?_ _
    go_wp2_with fail
    go_ret2
    refine ⟨?_, (HS14.out).old⟩
    have HQ : t11 ++ e.blob = enS e := by unfold enS headP; rw [HT11.out, HT10.out, HT9.out, HT8.out, HT7.out, HT6.out, HT5.out, HT4.out, HT3.out, HT2.out, HT1.out]
    rw [HF.out, ← HQ]
    rfl
end Go.Proofs.Ytgljhfofikjbdaa
/- an entry is decoded from its bytes, and bytes that are decoded are those of the entry -/
namespace Go.Proofs.Ytgljhfofikjbdaa
open Go.RowKit
set_option maxRecDepth 20000

def celL (c : Cl) : List UInt8 := if c.set then leL c.data.size 1 ++ c.data.data.toList else leL 255 1
def enL (e : Ent) : List UInt8 := leL e.lsn 8 ++ (leL e.kind 1 ++ (leL e.tx 4 ++ (leL e.ptx 8 ++ (leL e.ppg 8 ++ (leL e.ref 8 ++ (leL e.ch.page 4 ++ (leL e.ch.slot 1 ++ (celL e.ch.before ++ (celL e.ch.after ++ (leL e.blob.size 4 ++ e.blob.data.toList))))))))))
theorem putR_toL (s : ByteArray) (n : Int) (k : Nat) (h1 : 1 ≤ k) (h8 : k ≤ 8) : (putR s n k).data.toList = s.data.toList ++ leL n k := by rw [putR_list s n k h1 h8, ofL_list]
theorem cellP_toL (s : ByteArray) (c : Cl) : (cellP s c).data.toList = s.data.toList ++ celL c := by
  unfold cellP celL
  split
  · rw [str_app]
    have := putR_toL s c.data.size 1 (by decide) (by decide)
    rw [show putR s c.data.size 1 = putR s c.data.size ((1 : Nat) : Int) from rfl, this, List.append_assoc]
  · exact putR_toL s 255 1 (by decide) (by decide)
theorem enS_toL (e : Ent) : (enS e).data.toList = enL e := by
  have p1 : ∀ s n, (putR s n 1).data.toList = s.data.toList ++ leL n 1 := fun s n => putR_toL s n 1 (by decide) (by decide)
  have p4 : ∀ s n, (putR s n 4).data.toList = s.data.toList ++ leL n 4 := fun s n => putR_toL s n 4 (by decide) (by decide)
  have p8 : ∀ s n, (putR s n 8).data.toList = s.data.toList ++ leL n 8 := fun s n => putR_toL s n 8 (by decide) (by decide)
  unfold enS headP enL
  rw [str_app, p4, cellP_toL, cellP_toL, p1, p4, p8, p8, p8, p4, p1, p8]
  simp only [List.append_assoc]
  rfl
theorem enS_of {e : Ent} {s : ByteArray} (h : s.data.toList = enL e) : enS e = s := str_eq (by rw [enS_toL, h])
theorem leL_len (n : Int) (k : Nat) : (leL n k).length = k := leL_length n k
theorem str_drop {s : ByteArray} {a t : List UInt8} (k : Nat) (h : s.data.toList = a ++ t) (hk : a.length = k) : (s.extract k s.size).data.toList = t := by
  rw [extract_list, List.take_of_length_le (by simp), h, ← hk, List.drop_left]
theorem str_take {s : ByteArray} {a t : List UInt8} (k : Nat) (h : s.data.toList = a ++ t) (hk : a.length = k) : (s.extract 0 k).data.toList = a := by
  rw [extract_list, List.drop_zero, h, ← hk, List.take_left]
theorem str_len {s : ByteArray} {a t : List UInt8} (h : s.data.toList = a ++ t) : s.size = a.length + t.length := by rw [← size_list, h, List.length_append]
/-! forward -/
theorem num_app {r : Rs} {n : Int} {t : List UInt8} (k : Nat) (h1 : 1 ≤ k) (h8 : k ≤ 8) (h : r.rest.data.toList = leL n k ++ t) (n0 : 0 ≤ n) (n1 : n < 2 ^ (8 * k)) (n2 : n ≤ 9223372036854775807) : ∃ r', numP k r = (n, r') ∧ r'.rest.data.toList = t ∧ r'.err = r.err := by
  refine ⟨⟨r.rest.extract k r.rest.size, r.err⟩, ?_, str_drop k h (leL_len n k), rfl⟩
  have hsz := str_len h
  rw [leL_len] at hsz
  unfold numP
  rw [if_neg (by omega)]
  have hn : (leNum r.rest 0 k : Int) = n % 2 ^ (8 * k) := leNum_of r.rest 0 n k (fun i hi => by
    rw [Nat.zero_add, h, getD_left _ _ _ (by rw [leL_len]; exact hi), leL_get n k i hi])
  rw [Int.emod_eq_of_lt n0 n1] at hn
  show (wrap64 (leNum r.rest 0 k : Int), _) = _
  rw [hn, IntWalk.wrap64_in n ⟨by omega, by omega⟩]
  rfl
theorem data_app {r : Rs} {d : ByteArray} {t : List UInt8} (h : r.rest.data.toList = d.data.toList ++ t) : ∃ r', dataP d.size r = (d, r') ∧ r'.rest.data.toList = t ∧ r'.err = r.err := by
  refine ⟨⟨r.rest.extract d.size r.rest.size, r.err⟩, ?_, str_drop d.size h (size_list d), rfl⟩
  have hsz := str_len h
  rw [size_list] at hsz
  unfold dataP
  rw [if_neg (by omega)]
  show (r.rest.extract 0 d.size, _) = _
  rw [show r.rest.extract 0 d.size = d from str_eq (str_take d.size h (size_list d))]
  rfl
theorem cell_app {r : Rs} {c : Cl} {t : List UInt8} (hc : cellOkB c = true) (h : r.rest.data.toList = celL c ++ t) : ∃ r', cellRd r = (c, r') ∧ r'.rest.data.toList = t ∧ r'.err = r.err := by
  have hs := cellOk_small hc
  unfold celL at h
  by_cases hset : c.set = true
  · rw [if_pos hset, List.append_assoc] at h
    obtain ⟨r1, e1, h1, x1⟩ := num_app 1 (by decide) (by decide) h (by omega) (by omega) (by omega)
    obtain ⟨r2, e2, h2, x2⟩ := data_app h1
    refine ⟨r2, ?_, h2, x2.trans x1⟩
    rw [cellRd_of e1, if_neg (by omega), if_neg (by omega), e2]
    obtain ⟨st, d⟩ := c
    simp only at hset
    rw [hset]
  · rw [if_neg hset] at h
    obtain ⟨r1, e1, h1, x1⟩ := num_app 1 (by decide) (by decide) h (by omega) (by omega) (by omega)
    refine ⟨r1, ?_, h1, x1⟩
    rw [cellRd_of e1, if_pos rfl]
    obtain ⟨st, d⟩ := c
    simp only at hset
    have hst : st = false := by simpa using hset
    have hd : d.size = 0 := by
      unfold cellOkB at hc
      rw [hst] at hc
      simp at hc
      rw [hc.2]; rfl
    rw [hst, size_zero.1 hd]
    rfl
/-- what a valid entry's fields are -/
structure EnIn (e : Ent) : Prop where
  lsn : 0 ≤ e.lsn ∧ e.lsn ≤ 1099511627776
  kind : 0 ≤ e.kind ∧ e.kind ≤ 8
  tx : 0 ≤ e.tx ∧ e.tx ≤ 1073741824
  ptx : 0 ≤ e.ptx ∧ e.ptx ≤ 1099511627776
  ppg : 0 ≤ e.ppg ∧ e.ppg ≤ 1099511627776
  ref : 0 ≤ e.ref ∧ e.ref ≤ 1099511627776
  ch : chOkB e.ch = true
  blob : e.blob.size ≤ 8192
theorem nil_ok : chOkB chNil = true := by decide
theorem ent_in {e : Ent} (h : entOkB e = true) : EnIn e := by
  have hz := ent_small h
  unfold entOkB at h
  simp only [Bool.and_eq_true, decide_eq_true_eq] at h
  obtain ⟨hk, l1, l2, b1, b2, b3, t0, _, _, _, h4, _⟩ := h
  unfold kindB at hk
  unfold befB at b1 b2 b3
  simp at hk b1 b2 b3
  have tz : zeroB e.tx = true → 0 ≤ e.tx ∧ e.tx ≤ 1073741824 := fun h => by unfold zeroB at h; simp at h; omega
  have tt : isTxB e.tx = true → 0 ≤ e.tx ∧ e.tx ≤ 1073741824 := fun h => by unfold isTxB at h; simp at h; omega
  have cn : noChB e.ch = true → chOkB e.ch = true := fun h => by rw [sameV_iff.1 h]; exact nil_ok
  have both : (0 ≤ e.tx ∧ e.tx ≤ 1073741824) ∧ chOkB e.ch = true := by
    unfold ruleF at t0 h4
    by_cases k1 : e.kind = 1
    · rw [if_pos k1] at t0 h4; exact ⟨tt t0, h4⟩
    rw [if_neg k1] at t0 h4
    by_cases k1 : e.kind = 2
    · rw [if_pos k1] at t0 h4; exact ⟨tt t0, h4⟩
    rw [if_neg k1] at t0 h4
    by_cases k1 : e.kind = 3 ∨ e.kind = 4 ∨ e.kind = 5
    · rw [if_pos k1] at t0 h4; exact ⟨tt t0, cn h4⟩
    rw [if_neg k1] at t0 h4
    by_cases k1 : e.kind = 7
    · rw [if_pos k1] at t0 h4
      have h4' : (sameV e.ch ⟨e.ch.page, 0, emptyCl, emptyCl⟩ && chOkB e.ch) = true := h4
      rw [Bool.and_eq_true] at h4'
      exact ⟨tz t0, h4'.2⟩
    rw [if_neg k1] at t0 h4
    exact ⟨tz t0, cn h4⟩
  exact ⟨⟨by omega, l2⟩, ⟨by omega, by omega⟩, both.1, ⟨by omega, by omega⟩, ⟨by omega, by omega⟩, ⟨by omega, by omega⟩, both.2, hz.2.2⟩
theorem en_app {r : Rs} {e : Ent} (he : entOkB e = true) (h : r.rest.data.toList = enL e) : ∃ r', enRd r = (e, r') ∧ r'.rest.data.toList = [] ∧ r'.err = r.err := by
  have i := ent_in he
  obtain ⟨p0, p1, s0, s1, cb, ca⟩ := chOk_parts i.ch
  have e8 : (2 : Int) ^ (8 * 8) = 18446744073709551616 := by decide
  have e4 : (2 : Int) ^ (8 * 4) = 4294967296 := by decide
  have e1 : (2 : Int) ^ (8 * 1) = 256 := by decide
  have hb := i.blob
  unfold enL at h
  obtain ⟨r1, x1, h1, y1⟩ := num_app 8 (by decide) (by decide) h i.lsn.1 (by have := i.lsn.2; omega) (by have := i.lsn.2; omega)
  obtain ⟨r2, x2, h2, y2⟩ := num_app 1 (by decide) (by decide) h1 i.kind.1 (by have := i.kind.2; omega) (by have := i.kind.2; omega)
  obtain ⟨r3, x3, h3, y3⟩ := num_app 4 (by decide) (by decide) h2 i.tx.1 (by have := i.tx.2; omega) (by have := i.tx.2; omega)
  obtain ⟨r4, x4, h4, y4⟩ := num_app 8 (by decide) (by decide) h3 i.ptx.1 (by have := i.ptx.2; omega) (by have := i.ptx.2; omega)
  obtain ⟨r5, x5, h5, y5⟩ := num_app 8 (by decide) (by decide) h4 i.ppg.1 (by have := i.ppg.2; omega) (by have := i.ppg.2; omega)
  obtain ⟨r6, x6, h6, y6⟩ := num_app 8 (by decide) (by decide) h5 i.ref.1 (by have := i.ref.2; omega) (by have := i.ref.2; omega)
  obtain ⟨r7, x7, h7, y7⟩ := num_app 4 (by decide) (by decide) h6 p0 (by omega) (by omega)
  obtain ⟨r8, x8, h8, y8⟩ := num_app 1 (by decide) (by decide) h7 s0 (by omega) (by omega)
  obtain ⟨r9, x9, h9, y9⟩ := cell_app cb h8
  obtain ⟨r10, x10, h10, y10⟩ := cell_app ca h9
  obtain ⟨r11, x11, h11, y11⟩ := num_app 4 (by decide) (by decide) h10 (by omega) (by omega) (by omega)
  obtain ⟨r12, x12, h12, y12⟩ := data_app (r := r11) (d := e.blob) (t := []) (by rw [List.append_nil]; exact h11)
  refine ⟨r12, ?_, h12, ?_⟩
  · exact enRd_of x1 x2 x3 x4 x5 x6 (chRd_of x7 x8 x9 x10) x11 x12
  · rw [y12, y11, y10, y9, y8, y7, y6, y5, y4, y3, y2, y1]
theorem dec_enc {e : Ent} (he : entOkB e = true) : decP (enS e) = (e, 0) := by
  obtain ⟨r', h1, h2, h3⟩ := en_app (r := ⟨enS e, 0⟩) he (enS_toL e)
  rw [decP_of h1, if_pos h3, if_pos (by rw [← size_list, h2]; rfl), if_pos he]
/-! back -/
theorem leB_mod (n m : Int) (k : Nat) (hk : k < 8) (h : n % 18446744073709551616 = m % 18446744073709551616) : leB n k = leB m k := by
  have e : ∀ x : Int, IntKind.u64.wrap x = x % 18446744073709551616 := fun x => by rw [IntKind.wrap_u64]
  have h1 := byte_of_u64 n k hk
  have h2 := byte_of_u64 m k hk
  rw [e] at h1 h2
  rw [h] at h1
  exact UInt8.toNat_inj.1 (by omega)
theorem leB_wrap (n : Int) (k : Nat) (hk : k < 8) : leB (wrap64 n) k = leB n k := by
  apply leB_mod _ _ k hk
  rw [← w64, IntKind.wrap_i64]
  omega
theorem leB_leNum (s : ByteArray) (k i : Nat) (hi : i < k) : leB (leNum s 0 k : Int) i = s.data.toList.getD i 0 := by
  have hl := leNum_lt s 0 k
  have h1 : (leNum (leS (leNum s 0 k : Int) k) 0 k : Int) = (leNum s 0 k : Int) % 2 ^ (8 * k) := leNum_of _ 0 _ k (fun j hj => by
    rw [Nat.zero_add]
    show (leL (leNum s 0 k : Int) k).toArray.toList.getD j 0 = _
    rw [List.toList_toArray, leL_get _ k j hj])
  have e2 : ((256 ^ k : Nat) : Int) = 2 ^ (8 * k) := by rw [show (256 : Nat) = 2 ^ 8 from rfl, ← Nat.pow_mul]; simp
  rw [Int.emod_eq_of_lt (by omega) (by rw [← e2]; omega)] at h1
  have h2 := leNum_inj (leS (leNum s 0 k : Int) k) s 0 k (by omega) i hi
  rw [Nat.zero_add] at h2
  rw [← h2]
  show _ = (leL (leNum s 0 k : Int) k).toArray.toList.getD i 0
  rw [List.toList_toArray, leL_get _ k i hi]
theorem leL_leNum (s : ByteArray) (k : Nat) (h8 : k ≤ 8) (hk : k ≤ s.size) : leL (wrap64 (leNum s 0 k : Int)) k = s.data.toList.take k := by
  apply List.ext_getElem
  · rw [leL_len, List.length_take, size_list]; omega
  · intro i h1 h2
    rw [leL_len] at h1
    rw [leL_getD _ k i h1, leB_wrap _ i (by omega), leB_leNum s k i h1, List.getElem_take, List.getD_eq_getElem?_getD, List.getElem?_eq_getElem (by rw [size_list]; omega), Option.getD_some]
theorem failP_no {r : Rs} {e : Int} (he : e ≠ 0) : (failP r e).err ≠ 0 := by
  unfold failP
  split
  · exact he
  · assumption
theorem num_inv {r r' : Rs} {n : Int} (k : Nat) (h8 : k ≤ 8) (h : numP k r = (n, r')) (h0 : r'.err = 0) : r.err = 0 ∧ r.rest.data.toList = leL n k ++ r'.rest.data.toList := by
  unfold numP at h
  split at h
  · obtain ⟨_, rfl⟩ := Prod.mk.inj h
    exact absurd h0 (failP_no (by decide))
  · rename_i hz
    obtain ⟨rfl, rfl⟩ := Prod.mk.inj h
    refine ⟨h0, ?_⟩
    show _ = leL (wrap64 (leNum r.rest 0 k : Int)) k ++ (r.rest.extract k r.rest.size).data.toList
    rw [leL_leNum r.rest k h8 (by omega), extract_list, List.take_of_length_le (l := r.rest.data.toList) (i := r.rest.size) (by simp), List.take_append_drop]
theorem data_inv {r r' : Rs} {n : Int} {d : ByteArray} (hn : 0 ≤ n) (h : dataP n r = (d, r')) (h0 : r'.err = 0) : r.err = 0 ∧ r.rest.data.toList = d.data.toList ++ r'.rest.data.toList ∧ (d.size : Int) = n := by
  unfold dataP at h
  split at h
  · obtain ⟨_, rfl⟩ := Prod.mk.inj h
    exact absurd h0 (failP_no (by decide))
  · rename_i hz
    obtain ⟨rfl, rfl⟩ := Prod.mk.inj h
    refine ⟨h0, ?_, by rw [ByteArray.size_extract]; omega⟩
    show _ = (r.rest.extract 0 n.toNat).data.toList ++ (r.rest.extract n.toNat r.rest.size).data.toList
    rw [extract_list, extract_list, List.drop_zero, List.take_of_length_le (l := r.rest.data.toList) (i := r.rest.size) (by simp), List.take_append_drop]
theorem cell_inv {r r' : Rs} {c : Cl} (h : cellRd r = (c, r')) (h0 : r'.err = 0) : r.err = 0 ∧ r.rest.data.toList = celL c ++ r'.rest.data.toList := by
  rcases h1 : numP 1 r with ⟨n, r1⟩
  rw [cellRd_of h1] at h
  have hrg := numP_range (by decide) (by decide) h1
  by_cases q : n = 255
  · rw [if_pos q] at h
    obtain ⟨rfl, rfl⟩ := Prod.mk.inj h
    have := num_inv 1 (by decide) h1 h0
    rw [q] at this
    exact this
  · rw [if_neg q] at h
    by_cases q2 : 12 < n
    · rw [if_pos q2] at h
      obtain ⟨_, rfl⟩ := Prod.mk.inj h
      exact absurd h0 (failP_no (by decide))
    · rw [if_neg q2] at h
      rcases h2 : dataP n r1 with ⟨d, r2⟩
      rw [h2] at h
      obtain ⟨rfl, rfl⟩ := Prod.mk.inj h
      have k2 := data_inv hrg.1 h2 h0
      have k1 := num_inv 1 (by decide) h1 k2.1
      refine ⟨k1.1, ?_⟩
      rw [k1.2, k2.2.1]
      show _ = (if (true : Bool) = true then leL d.size 1 ++ d.data.toList else leL 255 1) ++ _
      rw [if_pos rfl, k2.2.2, List.append_assoc]
theorem en_inv {r r' : Rs} {e : Ent} (h : enRd r = (e, r')) (h0 : r'.err = 0) : r.rest.data.toList = enL e ++ r'.rest.data.toList := by
  rcases h1 : numP 8 r with ⟨x1, r1⟩
  rcases h2 : numP 1 r1 with ⟨x2, r2⟩
  rcases h3 : numP 4 r2 with ⟨x3, r3⟩
  rcases h4 : numP 8 r3 with ⟨x4, r4⟩
  rcases h5 : numP 8 r4 with ⟨x5, r5⟩
  rcases h6 : numP 8 r5 with ⟨x6, r6⟩
  rcases h7 : numP 4 r6 with ⟨x7, r7⟩
  rcases h8 : numP 1 r7 with ⟨x8, r8⟩
  rcases h9 : cellRd r8 with ⟨x9, r9⟩
  rcases h10 : cellRd r9 with ⟨x10, r10⟩
  rcases h11 : numP 4 r10 with ⟨x11, r11⟩
  rcases h12 : dataP x11 r11 with ⟨x12, r12⟩
  rw [enRd_of h1 h2 h3 h4 h5 h6 (chRd_of h7 h8 h9 h10) h11 h12] at h
  obtain ⟨rfl, rfl⟩ := Prod.mk.inj h
  have k12 := data_inv (numP_range (by decide) (by decide) h11).1 h12 h0
  have k11 := num_inv 4 (by decide) h11 k12.1
  have k10 := cell_inv h10 k11.1
  have k9 := cell_inv h9 k10.1
  have k8 := num_inv 1 (by decide) h8 k9.1
  have k7 := num_inv 4 (by decide) h7 k8.1
  have k6 := num_inv 8 (by decide) h6 k7.1
  have k5 := num_inv 8 (by decide) h5 k6.1
  have k4 := num_inv 8 (by decide) h4 k5.1
  have k3 := num_inv 4 (by decide) h3 k4.1
  have k2 := num_inv 1 (by decide) h2 k3.1
  have k1 := num_inv 8 (by decide) h1 k2.1
  rw [k1.2, k2.2, k3.2, k4.2, k5.2, k6.2, k7.2, k8.2, k9.2, k10.2, k11.2, k12.2.1]
  unfold enL
  simp only [List.append_assoc, k12.2.2]
theorem dec_inv {t : ByteArray} {x : Ent} (h : decP t = (x, 0)) : entOkB x = true ∧ enS x = t := by
  rcases hr : enRd ⟨t, 0⟩ with ⟨y, r⟩
  rw [decP_of hr] at h
  by_cases h1 : r.err = 0
  · rw [if_pos h1] at h
    by_cases h2 : r.rest.size = 0
    · rw [if_pos h2] at h
      by_cases h3 : entOkB y = true
      · rw [if_pos h3] at h
        obtain ⟨rfl, _⟩ := Prod.mk.inj h
        have := en_inv hr h1
        have hnil : r.rest.data.toList = [] := List.eq_nil_of_length_eq_zero (by rw [size_list]; exact h2)
        rw [hnil, List.append_nil] at this
        exact ⟨h3, enS_of this⟩
      · rw [if_neg h3] at h
        exact absurd (Prod.mk.inj h).2 (by decide)
    · rw [if_neg h2] at h
      exact absurd (Prod.mk.inj h).2 (by decide)
  · rw [if_neg h1] at h
    exact absurd (Prod.mk.inj h).2 h1
end Go.Proofs.Ytgljhfofikjbdaa
/- the first bytes of an entry's bytes are too short -/
namespace Go.Proofs.Ytgljhfofikjbdaa
open Go.RowKit
set_option maxRecDepth 20000

/-- a cursor over the first bytes, at the place of one over all -/
structure Pre (k : Nat) (c c' : Cu) : Prop where
  s : c'.s = c.s.extract 0 k
  le : k ≤ c.s.size
  at_ : c'.e = 5 ∨ (c'.e = 0 ∧ c'.at_ = c.at_ ∧ c.at_ ≤ k)
structure PreS {α : Type} (k : Nat) (p q : α × Cu) (c : Cu) : Prop where
  pre : Pre k p.2 q.2
  val : q.2.e = 0 → q.1 = p.1
  back : p.2.e = 0 → c.e = 0
theorem getD_first (s : ByteArray) (k a : Nat) (h : a < k) (hk : k ≤ s.size) : (s.extract 0 k).data.toList.getD a 0 = s.data.toList.getD a 0 := by
  rw [extract_list, List.drop_zero, List.getD_eq_getElem?_getD, List.getD_eq_getElem?_getD, List.getElem?_take, if_pos h]
theorem size_first (s : ByteArray) (k : Nat) (hk : k ≤ s.size) : (s.extract 0 k).size = k := by rw [ByteArray.size_extract]; omega
theorem num_back {z : Int} {c : Cu} (h : (rnumP z c).2.e = 0) : c.e = 0 := by
  unfold rnumP at h
  by_cases he : c.e = 0
  · exact he
  · rw [if_neg he] at h; exact h
theorem num_pre {k : Nat} {c c' : Cu} (z : Int) (hz : 1 ≤ z) (h : Pre k c c') (h0 : (rnumP z c).2.e = 0) : PreS k (rnumP z c) (rnumP z c') c := by
  have he := num_back h0
  have hsz : c'.s.size = k := by rw [h.s]; exact size_first _ _ h.le
  have hle := h.le
  by_cases hs : (c.s.size : Int) < c.at_ + z
  · exfalso
    have : rnumP z c = (0, failC c 5) := by unfold rnumP; rw [if_pos he, if_pos hs]
    rw [this] at h0
    exact absurd h0 (by show ¬ (5 : Int) = 0; decide)
  · have e1 : rnumP z c = (wrap64 (leNum c.s c.at_ z.toNat), ⟨c.s, c.at_ + z.toNat, c.e⟩) := by unfold rnumP; rw [if_pos he, if_neg hs]
    rcases h.at_ with h5 | ⟨q0, q1, q2⟩
    · have e2 : rnumP z c' = (0, c') := by unfold rnumP; rw [if_neg (by rw [h5]; decide)]
      rw [e1, e2]
      exact ⟨⟨h.s, h.le, .inl h5⟩, fun k0 => absurd (h5.symm.trans k0) (by decide), fun _ => he⟩
    · by_cases hk : (c'.s.size : Int) < c'.at_ + z
      · have e2 : rnumP z c' = (0, failC c' 5) := by unfold rnumP; rw [if_pos q0, if_pos hk]
        rw [e1, e2]
        exact ⟨⟨h.s, h.le, .inl rfl⟩, fun k0 => absurd k0 (by show ¬ (5 : Int) = 0; decide), fun _ => he⟩
      · have e2 : rnumP z c' = (wrap64 (leNum c'.s c'.at_ z.toNat), ⟨c'.s, c'.at_ + z.toNat, c'.e⟩) := by unfold rnumP; rw [if_pos q0, if_neg hk]
        rw [e1, e2]
        refine ⟨⟨h.s, h.le, .inr ⟨q0, by show c'.at_ + _ = c.at_ + _; rw [q1], by show c.at_ + z.toNat ≤ k; omega⟩⟩, fun _ => ?_, fun _ => he⟩
        show wrap64 (leNum c'.s c'.at_ z.toNat) = wrap64 (leNum c.s c.at_ z.toNat)
        rw [q1, leNum_congr c'.s c.s c.at_ z.toNat (fun i hi => by rw [h.s]; exact getD_first _ _ _ (by omega) h.le)]
theorem data_back {z : Int} {c : Cu} (h : (rbytesP z c).2.e = 0) : c.e = 0 := by
  unfold rbytesP at h
  by_cases he : c.e = 0
  · exact he
  · rw [if_neg he] at h; exact h
theorem data_pre {k : Nat} {c c' : Cu} (z y : Int) (hz : 0 ≤ z) (hy : c'.e = 0 → y = z) (h : Pre k c c') (h0 : (rbytesP z c).2.e = 0) : PreS k (rbytesP z c) (rbytesP y c') c := by
  have he := data_back h0
  have hsz : c'.s.size = k := by rw [h.s]; exact size_first _ _ h.le
  have hle := h.le
  by_cases hs : (c.s.size : Int) < c.at_ + z
  · exfalso
    have : rbytesP z c = (⟨#[]⟩, failC c 5) := by unfold rbytesP; rw [if_pos he, if_pos hs]
    rw [this] at h0
    exact absurd h0 (by show ¬ (5 : Int) = 0; decide)
  · have e1 : rbytesP z c = (c.s.extract c.at_ (c.at_ + z.toNat), ⟨c.s, c.at_ + z.toNat, c.e⟩) := by unfold rbytesP; rw [if_pos he, if_neg hs]
    rcases h.at_ with h5 | ⟨q0, q1, q2⟩
    · have e2 : rbytesP y c' = (⟨#[]⟩, c') := by unfold rbytesP; rw [if_neg (by rw [h5]; decide)]
      rw [e1, e2]
      exact ⟨⟨h.s, h.le, .inl h5⟩, fun k0 => absurd (h5.symm.trans k0) (by decide), fun _ => he⟩
    · obtain rfl := hy q0
      by_cases hk : (c'.s.size : Int) < c'.at_ + y
      · have e2 : rbytesP y c' = (⟨#[]⟩, failC c' 5) := by unfold rbytesP; rw [if_pos q0, if_pos hk]
        rw [e1, e2]
        exact ⟨⟨h.s, h.le, .inl rfl⟩, fun k0 => absurd k0 (by show ¬ (5 : Int) = 0; decide), fun _ => he⟩
      · have e2 : rbytesP y c' = (c'.s.extract c'.at_ (c'.at_ + y.toNat), ⟨c'.s, c'.at_ + y.toNat, c'.e⟩) := by unfold rbytesP; rw [if_pos q0, if_neg hk]
        rw [e1, e2]
        refine ⟨⟨h.s, h.le, .inr ⟨q0, by show c'.at_ + _ = c.at_ + _; rw [q1], by show c.at_ + y.toNat ≤ k; omega⟩⟩, fun _ => ?_, fun _ => he⟩
        show c'.s.extract c'.at_ (c'.at_ + y.toNat) = c.s.extract c.at_ (c.at_ + y.toNat)
        rw [h.s, q1]
        apply str_eq
        rw [extract_list, extract_list, extract_list, List.drop_zero, List.take_take, Nat.min_eq_left (by omega)]
theorem cell_back {c : Cu} (h : (rcellP c).2.e = 0) : (rnumP 1 c).2.e = 0 := by
  unfold rcellP at h
  split at h
  · rename_i k; exact k.1
  · exact h
theorem cell_pre {k : Nat} {c c' : Cu} (h : Pre k c c') (h0 : (rcellP c).2.e = 0) : PreS k (rcellP c) (rcellP c') c := by
  have s := num_pre 1 (by decide) h (cell_back h0)
  have hrg := rnumP_range (z := 1) (r := c) (r' := (rnumP 1 c).2) (n := (rnumP 1 c).1) (by decide) (by decide) rfl
  have hb := s.back (cell_back h0)
  have hq := cell_back h0
  unfold rcellP at h0 ⊢
  generalize rnumP 1 c = p at *
  generalize rnumP 1 c' = q at *
  obtain ⟨n, c1⟩ := p
  obtain ⟨m, c2⟩ := q
  simp only at hrg h0 hq ⊢
  rcases s.pre.at_ with h5 | h5
  · rw [if_neg (c := c2.e = 0 ∧ ¬ m = 255) (fun k => absurd (h5.symm.trans k.1) (by decide))]
    refine ⟨⟨?_, ?_, .inl h5⟩, fun k0 => absurd (h5.symm.trans k0) (by decide), fun _ => hb⟩
    · have hs : (if c1.e = 0 ∧ ¬ n = 255 then (if 12 < n then (emptyCl, failC c1 4) else (⟨true, (rbytesP n c1).1⟩, (rbytesP n c1).2)) else (emptyCl, c1) : Cl × Cu).2.s = c1.s := by
        split
        · split
          · rfl
          · exact rbytesP_s n c1
        · rfl
      rw [hs]; exact s.pre.s
    · have hs : (if c1.e = 0 ∧ ¬ n = 255 then (if 12 < n then (emptyCl, failC c1 4) else (⟨true, (rbytesP n c1).1⟩, (rbytesP n c1).2)) else (emptyCl, c1) : Cl × Cu).2.s = c1.s := by
        split
        · split
          · rfl
          · exact rbytesP_s n c1
        · rfl
      rw [hs]; exact s.pre.le
  · obtain rfl : m = n := s.val h5.1
    by_cases h1 : m = 255
    · rw [if_neg (show ¬ (c1.e = 0 ∧ ¬ m = 255) from fun k => k.2 h1), if_neg (show ¬ (c2.e = 0 ∧ ¬ m = 255) from fun k => k.2 h1)]
      exact ⟨s.pre, fun _ => rfl, fun _ => hb⟩
    · rw [if_pos (show c1.e = 0 ∧ ¬ m = 255 from ⟨hq, h1⟩)] at h0 ⊢
      rw [if_pos (show c2.e = 0 ∧ ¬ m = 255 from ⟨h5.1, h1⟩)]
      by_cases h2 : 12 < m
      · rw [if_pos h2] at h0
        exact absurd h0 (by show ¬ (4 : Int) = 0; decide)
      · rw [if_neg h2] at h0 ⊢
        rw [if_neg h2]
        have d := data_pre m m hrg.1 (fun _ => rfl) s.pre h0
        exact ⟨d.pre, fun k => by show (⟨true, _⟩ : Cl) = ⟨true, _⟩; rw [d.val k], fun _ => hb⟩
theorem en_pre {k : Nat} {c c' : Cu} (h : Pre k c c') (h0 : (enCu c).2.e = 0) : Pre k (enCu c).2 (enCu c').2 := by
  rcases h1 : rnumP 8 c with ⟨x1, c1⟩
  rcases k1 : rnumP 8 c' with ⟨y1, d1⟩
  rcases h2 : rnumP 1 c1 with ⟨x2, c2⟩
  rcases k2 : rnumP 1 d1 with ⟨y2, d2⟩
  rcases h3 : rnumP 4 c2 with ⟨x3, c3⟩
  rcases k3 : rnumP 4 d2 with ⟨y3, d3⟩
  rcases h4 : rnumP 8 c3 with ⟨x4, c4⟩
  rcases k4 : rnumP 8 d3 with ⟨y4, d4⟩
  rcases h5 : rnumP 8 c4 with ⟨x5, c5⟩
  rcases k5 : rnumP 8 d4 with ⟨y5, d5⟩
  rcases h6 : rnumP 8 c5 with ⟨x6, c6⟩
  rcases k6 : rnumP 8 d5 with ⟨y6, d6⟩
  rcases h7 : rnumP 4 c6 with ⟨x7, c7⟩
  rcases k7 : rnumP 4 d6 with ⟨y7, d7⟩
  rcases h8 : rnumP 1 c7 with ⟨x8, c8⟩
  rcases k8 : rnumP 1 d7 with ⟨y8, d8⟩
  rcases h9 : rcellP c8 with ⟨x9, c9⟩
  rcases k9 : rcellP d8 with ⟨y9, d9⟩
  rcases h10 : rcellP c9 with ⟨x10, c10⟩
  rcases k10 : rcellP d9 with ⟨y10, d10⟩
  rcases h11 : rnumP 4 c10 with ⟨x11, c11⟩
  rcases k11 : rnumP 4 d10 with ⟨y11, d11⟩
  rcases h12 : rbytesP x11 c11 with ⟨x12, c12⟩
  rcases k12 : rbytesP y11 d11 with ⟨y12, d12⟩
  rw [enCu_of h1 h2 h3 h4 h5 h6 h7 h8 h9 h10 h11 h12] at h0 ⊢
  rw [enCu_of k1 k2 k3 k4 k5 k6 k7 k8 k9 k10 k11 k12]
  have e12 : c12.e = 0 := h0
  have e11 : c11.e = 0 := data_back (z := x11) (c := c11) (by rw [h12]; exact e12)
  have e10 : c10.e = 0 := num_back (z := 4) (c := c10) (by rw [h11]; exact e11)
  have e9 : c9.e = 0 := num_back (z := 1) (c := c9) (cell_back (c := c9) (by rw [h10]; exact e10))
  have e8 : c8.e = 0 := num_back (z := 1) (c := c8) (cell_back (c := c8) (by rw [h9]; exact e9))
  have e7 : c7.e = 0 := num_back (z := 1) (c := c7) (by rw [h8]; exact e8)
  have e6 : c6.e = 0 := num_back (z := 4) (c := c6) (by rw [h7]; exact e7)
  have e5 : c5.e = 0 := num_back (z := 8) (c := c5) (by rw [h6]; exact e6)
  have e4 : c4.e = 0 := num_back (z := 8) (c := c4) (by rw [h5]; exact e5)
  have e3 : c3.e = 0 := num_back (z := 8) (c := c3) (by rw [h4]; exact e4)
  have e2 : c2.e = 0 := num_back (z := 4) (c := c2) (by rw [h3]; exact e3)
  have e1 : c1.e = 0 := num_back (z := 1) (c := c1) (by rw [h2]; exact e2)
  have s1 := num_pre 8 (by decide) (c := c) (c' := c') h (by rw [h1]; exact e1)
  rw [h1, k1] at s1
  have s2 := num_pre 1 (by decide) (c := c1) (c' := d1) s1.pre (by rw [h2]; exact e2)
  rw [h2, k2] at s2
  have s3 := num_pre 4 (by decide) (c := c2) (c' := d2) s2.pre (by rw [h3]; exact e3)
  rw [h3, k3] at s3
  have s4 := num_pre 8 (by decide) (c := c3) (c' := d3) s3.pre (by rw [h4]; exact e4)
  rw [h4, k4] at s4
  have s5 := num_pre 8 (by decide) (c := c4) (c' := d4) s4.pre (by rw [h5]; exact e5)
  rw [h5, k5] at s5
  have s6 := num_pre 8 (by decide) (c := c5) (c' := d5) s5.pre (by rw [h6]; exact e6)
  rw [h6, k6] at s6
  have s7 := num_pre 4 (by decide) (c := c6) (c' := d6) s6.pre (by rw [h7]; exact e7)
  rw [h7, k7] at s7
  have s8 := num_pre 1 (by decide) (c := c7) (c' := d7) s7.pre (by rw [h8]; exact e8)
  rw [h8, k8] at s8
  have s9 := cell_pre (c := c8) (c' := d8) s8.pre (by rw [h9]; exact e9)
  rw [h9, k9] at s9
  have s10 := cell_pre (c := c9) (c' := d9) s9.pre (by rw [h10]; exact e10)
  rw [h10, k10] at s10
  have s11 := num_pre 4 (by decide) (c := c10) (c' := d10) s10.pre (by rw [h11]; exact e11)
  rw [h11, k11] at s11
  have s12 := data_pre x11 y11 (rnumP_range (by decide) (by decide) h11).1 (fun q => s11.val q) (c := c11) (c' := d11) s11.pre (by rw [h12]; exact e12)
  rw [h12, k12] at s12
  exact s12.pre
theorem dec_short {e : Ent} (he : entOkB e = true) (k : Nat) (hk : k < (enS e).size) : decP ((enS e).extract 0 k) = (enNil, 5) := by
  have hd := dec_enc he
  rw [dec_same] at hd
  rcases hr : enCu ⟨enS e, 0, 0⟩ with ⟨y, c⟩
  rcases hq : enCu ⟨(enS e).extract 0 k, 0, 0⟩ with ⟨x, c'⟩
  rw [decR_of hr] at hd
  have h1 : c.e = 0 := by
    by_cases h : c.e = 0
    · exact h
    · rw [if_neg h] at hd; exact absurd (Prod.mk.inj hd).2 h
  rw [if_pos h1] at hd
  have h2 : c.at_ = (enS e).size := by
    by_cases h : c.at_ = (enS e).size
    · exact h
    · rw [if_neg h] at hd; exact absurd (Prod.mk.inj hd).2 (by decide)
  have hp := en_pre (k := k) (c := ⟨enS e, 0, 0⟩) (c' := ⟨(enS e).extract 0 k, 0, 0⟩) ⟨rfl, Nat.le_of_lt hk, .inr ⟨rfl, rfl, Nat.zero_le _⟩⟩ (by rw [hr]; exact h1)
  rw [hr, hq] at hp
  rw [dec_same, decR_of hq]
  rcases hp.at_ with h5 | ⟨_, _, h6⟩
  · have h5' : c'.e = 5 := h5
    rw [h5', if_neg (by decide)]
  · have h6' : c.at_ ≤ k := h6
    omega
end Go.Proofs.Ytgljhfofikjbdaa
/- the choices of the drawing package: Int -/
namespace Go.Proofs.Ytgljhfofikjbdaa
open Go.RowKit
set_option maxRecDepth 20000

/-- what Int leaves: some number -/
def IntPost (C : Nat) (w : World) (e : Ending) (w' : World) : Prop :=
  ∃ x : Int, e = .returned (.int .i64 x) ∧ -9223372036854775808 ≤ x ∧ x ≤ 9223372036854775807 ∧ Besides C w w' ∧ CodesOk w' C
/-- the numbers about limits -/
def limL : List Int := [9223372036854775807, -9223372036854775808, 1099511627776, 1099511627777, 1073741824, 1073741825, 64, 63, 16, 15, 256, 255, 4294967296, 65536, 256, 255]
def limV : Array Value := (limL.map (Value.int .i64)).toArray
theorem limL_in : ∀ i : Fin 16, -9223372036854775808 ≤ limL.getD i.val 0 ∧ limL.getD i.val 0 ≤ 9223372036854775807 := by decide
theorem limV_get (k : Nat) (h : k < 16) : limV[k]? = some (.int .i64 (limL.getD k 0)) := by
  unfold limV
  rw [List.getElem?_toArray, List.getElem?_map, List.getD_eq_getElem?_getD, List.getElem?_eq_getElem (by simpa [limL] using h)]
  rfl

set_option maxHeartbeats 1000000 in
theorem int_any (C : Nat) (w : World) (h : CodesOk w C) :
    Calls Try.prog 24 #[.pointer (some ⟨C, 0, none⟩)] w (IntPost C w) := by
  have HK := Lib.hid h
  clear h
  go_enter Try.func24, Try.ntmps24
  go_wp2_with fail
  refine (next_any C 10 _ HK.out (by omega)).mono ?_
  rintro e w2 ⟨m, rfl, m0, m1, hb2, hc2⟩
  have HB2 := Lib.hid hb2
  have HC2 := Lib.hid hc2
  clear m1 hb2 hc2
  by_cases h0 : m = 0
  · have h0b : (m == 0) = true := by rw [h0]; rfl
    clear h0
    go_wp2_with fail
    refine (next_any C 3 _ HC2.out (by omega)).mono ?_
    rintro e w3 ⟨x, rfl, x0, x1, hb3, hc3⟩
    have HB3 := Lib.hid (HB2.out.trans hb3)
    have HC3 := Lib.hid hc3
    have x2 : x ≤ 2 := by omega
    clear x1 hb3 hc3
    go_wp2_with fail
    go_ret
    exact ⟨_, rfl, by omega, by omega, HB3.out, HC3.out⟩
  have h0b : (m == 0) = false := by rw [beq_eq_false_iff_ne]; exact h0
  clear h0
  by_cases h1 : m = 1
  · have h1b : (m == 1) = true := by rw [h1]; rfl
    clear h1
    go_wp2_with fail
    have hlt := HC2.out.lt
    refine (next_any C 16 _ (HC2.out.below ((Below.refl _ _).alloc (Nat.le_refl _) _) hlt) (by omega)).mono ?_
    rintro e w3 ⟨x, rfl, x0, x1, hb3, hc3⟩
    obtain ⟨k, rfl⟩ := Int.eq_ofNat_of_zero_le x0
    have hk : k < 16 := by omega
    clear x1 x0
    have hcell : w3.cell? ⟨w2.heap.size, k, none⟩ = some (.int .i64 (limL.getD k 0)) := by
      rw [hb3.cell (p := ⟨w2.heap.size, k, none⟩) (by simp) (by show w2.heap.size ≠ C; omega), World.cell?_alloc_new]
      exact limV_get k hk
    have hin := limL_in ⟨k, hk⟩
    have HIN := Lib.hid hin
    clear hin
    generalize limL.getD k 0 = y at *
    have HB3 := Lib.hid ((HB2.out.alloc _).trans hb3)
    have HC3 := Lib.hid hc3
    clear hb3 hc3 hlt
    generalize w2.heap.size = b2 at *
    go_wp2_with fail
    go_ret
    exact ⟨y, rfl, HIN.out.1, HIN.out.2, HB3.out, HC3.out⟩
  · have h1b : (m == 1) = false := by rw [beq_eq_false_iff_ne]; exact h1
    clear h1
    go_wp2_with fail
    refine (next_any C 20 _ HC2.out (by omega)).mono ?_
    rintro e w3 ⟨x, rfl, x0, x1, hb3, hc3⟩
    have HB3 := Lib.hid (HB2.out.trans hb3)
    have HC3 := Lib.hid hc3
    have x2 : x ≤ 19 := by omega
    clear x1 hb3 hc3
    go_wp2_with fail
    go_ret
    exact ⟨_, rfl, by omega, by omega, HB3.out, HC3.out⟩
end Go.Proofs.Ytgljhfofikjbdaa
/- the choices of the drawing package: Change, OddChange -/
namespace Go.Proofs.Ytgljhfofikjbdaa
open Go.RowKit

/-- a change that is drawn -/
structure DrawnCh (c : Chg) : Prop where
  page0 : 0 ≤ c.page
  page1 : c.page < 4
  slot0 : 0 ≤ c.slot
  slot1 : c.slot < 3
  before : cellOkB c.before = true
  after : cellOkB c.after = true
theorem DrawnCh.good {c : Chg} (h : DrawnCh c) : GoodCh c := ⟨wf_of (by have := h.page0; omega) (by have := h.page1; omega), wf_of (by have := h.slot0; omega) (by have := h.slot1; omega), small_le (by have := cellOk_small h.before; omega), small_le (by have := cellOk_small h.after; omega)⟩
set_option maxHeartbeats 1000000 in
theorem change_any (C : Nat) (w : World) (h : CodesOk w C) :
    Calls Try.prog 22 #[.pointer (some ⟨C, 0, none⟩)] w fun e w' => ∃ c : Chg, e = .returned (.agg (chCells c).toArray) ∧ DrawnCh c ∧ Besides C w w' ∧ CodesOk w' C := by
  obtain ⟨fs, hu⟩ := under_ch
  have HU := Lib.hid hu
  clear hu
  have h1 := (Dr.start h).put 26 (chCells chNil)
  simp only [List.nil_append] at h1
  have HD := Lib.hid h1
  clear h1 h
  go_enter Try.func22, Try.ntmps22
  go_wp2_with fail
  refine (next_any C 4 _ HD.out.codes (by omega)).mono ?_
  rintro e w2 ⟨p, rfl, p0, p1, hb2, hc2⟩
  have HD2 := Lib.hid (HD.out.draws hb2 hc2)
  have HP : Hid (0 ≤ p ∧ p < 4) := ⟨p0, by omega⟩
  clear hb2 hc2 p0 p1
  go_wp2_with fail
  refine (next_any C 3 _ HD2.out.codes (by omega)).mono ?_
  rintro e w3 ⟨s, rfl, s0, s1, hb2, hc2⟩
  have HD3 := Lib.hid (HD2.out.draws hb2 hc2)
  have HS : Hid (0 ≤ s ∧ s < 3) := ⟨s0, by omega⟩
  clear hb2 hc2 s0 s1
  go_wp2_with fail
  refine (cell_any C _ HD3.out.codes).mono ?_
  rintro e w4 ⟨x, rfl, hx, hb2, hc2⟩
  have HD4 := Lib.hid (HD3.out.draws hb2 hc2)
  have HX := Lib.hid hx
  clear hb2 hc2 hx
  go_wp2_with fail
  refine (cell_any C _ HD4.out.codes).mono ?_
  rintro e w5 ⟨y, rfl, hy, hb2, hc2⟩
  have HD5 := Lib.hid (HD4.out.draws hb2 hc2)
  have HY := Lib.hid hy
  clear hb2 hc2 hy HD HD2 HD3 HD4
  have HBu : Hid (∀ W, Sem.run Try.prog (Instr.build 26 #[(0, .int .i64 p), (1, .int .i64 s), (2, clV x), (3, clV y)]) W = .ok (.agg (chCells ⟨p, s, x, y⟩).toArray) W) := fun W => by kernel_rfl
  go_wp2_with (first | ((with_reducible refine wpList_build_v 26 (.agg (chCells ⟨p, s, x, y⟩).toArray) ?_ ?_); (intro W; simp only [List.map_toArray, List.map_cons, List.map_nil]; exact HBu.out W); simp only [Act.put, List.setIfInBounds_toArray, List.set_cons_zero, List.set_cons_succ]) | ((with_reducible refine wpList_store_ob 26 (.tmp 2) w.heap.size (chCells ⟨p, s, x, y⟩) (chCells chNil) 26 ?_ ?_ ?_ ?_ ?_ ?_ ?_); (exact rfl); (exact rfl); (exact HD5.out.get 0 rfl); (exact info_ch); (exact rfl); (exact (oneCell_ch _)); skip))
  refine bodyPost_ret (results_ob Try.results22 _ _ w.heap.size (chCells ⟨p, s, x, y⟩) 26 _ rfl ((HD5.out.row 0 rfl (chCells ⟨p, s, x, y⟩)).get 0 rfl) HU.out rfl info_ch) rfl ?_
  exact ⟨⟨p, s, x, y⟩, rfl, ⟨HP.out.1, HP.out.2, HS.out.1, HS.out.2, HX.out, HY.out⟩, (HD5.out.row 0 rfl (chCells ⟨p, s, x, y⟩)).bes, (HD5.out.row 0 rfl (chCells ⟨p, s, x, y⟩)).codes⟩
set_option maxHeartbeats 1000000 in
theorem oddChange_any (C : Nat) (c : Chg) (w : World) (h : CodesOk w C) (hg : GoodCh c) :
    Calls Try.prog 25 #[.pointer (some ⟨C, 0, none⟩), .agg (chCells c).toArray] w fun e w' => ∃ c' : Chg, e = .returned (.agg (chCells c').toArray) ∧ GoodCh c' ∧ Besides C w w' ∧ CodesOk w' C := by
  obtain ⟨fs, hu⟩ := under_ch
  have HU := Lib.hid hu
  clear hu
  have HG := Lib.hid hg
  have h1 := ((Dr.start h).put 26 (chCells c)).put 26 (chCells chNil)
  simp only [List.nil_append, List.cons_append, World.size_alloc] at h1
  have HD := Lib.hid h1
  clear h1 h hg
  go_enter Try.func25, Try.ntmps25
  go_wp2_with fail
  refine (next_any C 4 _ HD.out.codes (by omega)).mono ?_
  rintro e w2 ⟨n, rfl, n0, n1, hb2, hc2⟩
  have HD2 := Lib.hid (HD.out.draws hb2 hc2)
  clear hb2 hc2 HD
  have n4 : n = 0 ∨ n = 1 ∨ n = 2 ∨ n = 3 := by omega
  clear n0 n1
  rcases n4 with rfl | rfl | rfl | rfl
  · go_wp2_with fail
    refine (int_any C _ HD2.out.codes).mono ?_
    rintro e w3 ⟨x, rfl, x0, x1, hb2, hc2⟩
    have HD3 := Lib.hid (HD2.out.draws hb2 hc2)
    have HX : Hid (-9223372036854775808 ≤ x ∧ x ≤ 9223372036854775807) := ⟨x0, x1⟩
    have a0 : w3.cell? ⟨w.heap.size, 0, none⟩ = some (.int .i64 c.page) := (HD3.out.at 0 rfl).at 0 rfl
    have f0 : w3.frozen? ⟨w.heap.size, 0, none⟩ = false := (HD3.out.at 0 rfl).frozen 0
    clear hb2 hc2 x0 x1 HD2
    have HD4 : Hid (Dr w C [⟨w.heap.size, 26, chCells ⟨x, c.slot, c.before, c.after⟩⟩, ⟨w.heap.size + 1, 26, chCells chNil⟩] (w3.setCell ⟨w.heap.size, 0, none⟩ (.int .i64 x))) := HD3.out.set 0 rfl 0 (.int .i64 x)
    go_wp2_with (first | ((with_reducible refine wpList_load_ob 26 (.tmp 3) w.heap.size (chCells ⟨x, c.slot, c.before, c.after⟩) 26 HU.out ?_ ?_ ?_ ?_ ?_); (exact rfl); (exact HD4.out.get 0 rfl); (exact rfl); (exact info_ch); simp only [Act.put, List.setIfInBounds_toArray, List.set_cons_zero, List.set_cons_succ]) | ((with_reducible refine wpList_store_ob 26 (.tmp 4) (w.heap.size + 1) (chCells ⟨x, c.slot, c.before, c.after⟩) (chCells chNil) 26 ?_ ?_ ?_ ?_ ?_ ?_ ?_); (exact rfl); (exact rfl); (exact HD4.out.get 1 rfl); (exact info_ch); (exact rfl); (exact (oneCell_ch _)); skip))
    refine bodyPost_ret (results_ob Try.results25 _ _ (w.heap.size + 1) (chCells ⟨x, c.slot, c.before, c.after⟩) 26 _ rfl ((HD4.out.row 1 rfl (chCells ⟨x, c.slot, c.before, c.after⟩)).get 1 rfl) HU.out rfl info_ch) rfl ?_
    exact ⟨⟨x, c.slot, c.before, c.after⟩, rfl, ⟨wf_of HX.out.1 HX.out.2, HG.out.slot, HG.out.before, HG.out.after⟩, (HD4.out.row 1 rfl (chCells ⟨x, c.slot, c.before, c.after⟩)).bes, (HD4.out.row 1 rfl (chCells ⟨x, c.slot, c.before, c.after⟩)).codes⟩
  · go_wp2_with fail
    refine (int_any C _ HD2.out.codes).mono ?_
    rintro e w3 ⟨x, rfl, x0, x1, hb2, hc2⟩
    have HD3 := Lib.hid (HD2.out.draws hb2 hc2)
    have HX : Hid (-9223372036854775808 ≤ x ∧ x ≤ 9223372036854775807) := ⟨x0, x1⟩
    have a0 : w3.cell? ⟨w.heap.size, 1, none⟩ = some (.int .i64 c.slot) := (HD3.out.at 0 rfl).at 1 rfl
    have f0 : w3.frozen? ⟨w.heap.size, 1, none⟩ = false := (HD3.out.at 0 rfl).frozen 1
    clear hb2 hc2 x0 x1 HD2
    have HD4 : Hid (Dr w C [⟨w.heap.size, 26, chCells ⟨c.page, x, c.before, c.after⟩⟩, ⟨w.heap.size + 1, 26, chCells chNil⟩] (w3.setCell ⟨w.heap.size, 1, none⟩ (.int .i64 x))) := HD3.out.set 0 rfl 1 (.int .i64 x)
    go_wp2_with (first | ((with_reducible refine wpList_load_ob 26 (.tmp 3) w.heap.size (chCells ⟨c.page, x, c.before, c.after⟩) 26 HU.out ?_ ?_ ?_ ?_ ?_); (exact rfl); (exact HD4.out.get 0 rfl); (exact rfl); (exact info_ch); simp only [Act.put, List.setIfInBounds_toArray, List.set_cons_zero, List.set_cons_succ]) | ((with_reducible refine wpList_store_ob 26 (.tmp 4) (w.heap.size + 1) (chCells ⟨c.page, x, c.before, c.after⟩) (chCells chNil) 26 ?_ ?_ ?_ ?_ ?_ ?_ ?_); (exact rfl); (exact rfl); (exact HD4.out.get 1 rfl); (exact info_ch); (exact rfl); (exact (oneCell_ch _)); skip))
    refine bodyPost_ret (results_ob Try.results25 _ _ (w.heap.size + 1) (chCells ⟨c.page, x, c.before, c.after⟩) 26 _ rfl ((HD4.out.row 1 rfl (chCells ⟨c.page, x, c.before, c.after⟩)).get 1 rfl) HU.out rfl info_ch) rfl ?_
    exact ⟨⟨c.page, x, c.before, c.after⟩, rfl, ⟨HG.out.page, wf_of HX.out.1 HX.out.2, HG.out.before, HG.out.after⟩, (HD4.out.row 1 rfl (chCells ⟨c.page, x, c.before, c.after⟩)).bes, (HD4.out.row 1 rfl (chCells ⟨c.page, x, c.before, c.after⟩)).codes⟩
  · go_wp2_with fail
    refine (next_any C 2 _ HD2.out.codes (by omega)).mono ?_
    rintro e w3 ⟨x, rfl, x0, x1, hb2, hc2⟩
    have HD3 := Lib.hid (HD2.out.draws hb2 hc2)
    clear hb2 hc2 x0 x1 HD2
    go_wp2_with fail
    refine (data_any C _ HD3.out.codes).mono ?_
    rintro e w4 ⟨d, rfl, hd, hb2, hc2⟩
    have HD4 := Lib.hid (HD3.out.draws hb2 hc2)
    have HS : Hid (d.size ≤ maxLen) := small_le hd
    clear hb2 hc2 hd HD3
    generalize (x == 1) = st
    have a0 : w4.cell? ⟨w.heap.size, 2, none⟩ = some (.bool c.before.set) := (HD4.out.at 0 rfl).at 2 rfl
    have a1 : w4.cell? ⟨w.heap.size, 3, none⟩ = some (.string c.before.data) := (HD4.out.at 0 rfl).at 3 rfl
    have f0 : w4.frozen? ⟨w.heap.size, 2, none⟩ = false := (HD4.out.at 0 rfl).frozen 2
    have f1 : w4.frozen? ⟨w.heap.size, 3, none⟩ = false := (HD4.out.at 0 rfl).frozen 3
    have HD5 : Hid (Dr w C [⟨w.heap.size, 26, chCells ⟨c.page, c.slot, ⟨st, d⟩, c.after⟩⟩, ⟨w.heap.size + 1, 26, chCells chNil⟩] ((w4.setCell ⟨w.heap.size, 2, none⟩ (.bool st)).setCell ⟨w.heap.size, 3, none⟩ (.string d))) := (HD4.out.set 0 rfl 2 (.bool st)).set 0 rfl 3 (.string d)
    go_wp2_with (first | ((with_reducible refine wpList_load_ob 26 (.tmp 3) w.heap.size (chCells ⟨c.page, c.slot, ⟨st, d⟩, c.after⟩) 26 HU.out ?_ ?_ ?_ ?_ ?_); (exact rfl); (exact HD5.out.get 0 rfl); (exact rfl); (exact info_ch); simp only [Act.put, List.setIfInBounds_toArray, List.set_cons_zero, List.set_cons_succ]) | ((with_reducible refine wpList_store_ob 26 (.tmp 4) (w.heap.size + 1) (chCells ⟨c.page, c.slot, ⟨st, d⟩, c.after⟩) (chCells chNil) 26 ?_ ?_ ?_ ?_ ?_ ?_ ?_); (exact rfl); (exact rfl); (exact HD5.out.get 1 rfl); (exact info_ch); (exact rfl); (exact (oneCell_ch _)); skip))
    refine bodyPost_ret (results_ob Try.results25 _ _ (w.heap.size + 1) (chCells ⟨c.page, c.slot, ⟨st, d⟩, c.after⟩) 26 _ rfl ((HD5.out.row 1 rfl (chCells ⟨c.page, c.slot, ⟨st, d⟩, c.after⟩)).get 1 rfl) HU.out rfl info_ch) rfl ?_
    exact ⟨⟨c.page, c.slot, ⟨st, d⟩, c.after⟩, rfl, ⟨HG.out.page, HG.out.slot, HS.out, HG.out.after⟩, (HD5.out.row 1 rfl (chCells ⟨c.page, c.slot, ⟨st, d⟩, c.after⟩)).bes, (HD5.out.row 1 rfl (chCells ⟨c.page, c.slot, ⟨st, d⟩, c.after⟩)).codes⟩
  · go_wp2_with fail
    refine (next_any C 2 _ HD2.out.codes (by omega)).mono ?_
    rintro e w3 ⟨x, rfl, x0, x1, hb2, hc2⟩
    have HD3 := Lib.hid (HD2.out.draws hb2 hc2)
    clear hb2 hc2 x0 x1 HD2
    go_wp2_with fail
    refine (data_any C _ HD3.out.codes).mono ?_
    rintro e w4 ⟨d, rfl, hd, hb2, hc2⟩
    have HD4 := Lib.hid (HD3.out.draws hb2 hc2)
    have HS : Hid (d.size ≤ maxLen) := small_le hd
    clear hb2 hc2 hd HD3
    generalize (x == 1) = st
    have a0 : w4.cell? ⟨w.heap.size, 4, none⟩ = some (.bool c.after.set) := (HD4.out.at 0 rfl).at 4 rfl
    have a1 : w4.cell? ⟨w.heap.size, 5, none⟩ = some (.string c.after.data) := (HD4.out.at 0 rfl).at 5 rfl
    have f0 : w4.frozen? ⟨w.heap.size, 4, none⟩ = false := (HD4.out.at 0 rfl).frozen 4
    have f1 : w4.frozen? ⟨w.heap.size, 5, none⟩ = false := (HD4.out.at 0 rfl).frozen 5
    have HD5 : Hid (Dr w C [⟨w.heap.size, 26, chCells ⟨c.page, c.slot, c.before, ⟨st, d⟩⟩⟩, ⟨w.heap.size + 1, 26, chCells chNil⟩] ((w4.setCell ⟨w.heap.size, 4, none⟩ (.bool st)).setCell ⟨w.heap.size, 5, none⟩ (.string d))) := (HD4.out.set 0 rfl 4 (.bool st)).set 0 rfl 5 (.string d)
    go_wp2_with (first | ((with_reducible refine wpList_load_ob 26 (.tmp 3) w.heap.size (chCells ⟨c.page, c.slot, c.before, ⟨st, d⟩⟩) 26 HU.out ?_ ?_ ?_ ?_ ?_); (exact rfl); (exact HD5.out.get 0 rfl); (exact rfl); (exact info_ch); simp only [Act.put, List.setIfInBounds_toArray, List.set_cons_zero, List.set_cons_succ]) | ((with_reducible refine wpList_store_ob 26 (.tmp 4) (w.heap.size + 1) (chCells ⟨c.page, c.slot, c.before, ⟨st, d⟩⟩) (chCells chNil) 26 ?_ ?_ ?_ ?_ ?_ ?_ ?_); (exact rfl); (exact rfl); (exact HD5.out.get 1 rfl); (exact info_ch); (exact rfl); (exact (oneCell_ch _)); skip))
    refine bodyPost_ret (results_ob Try.results25 _ _ (w.heap.size + 1) (chCells ⟨c.page, c.slot, c.before, ⟨st, d⟩⟩) 26 _ rfl ((HD5.out.row 1 rfl (chCells ⟨c.page, c.slot, c.before, ⟨st, d⟩⟩)).get 1 rfl) HU.out rfl info_ch) rfl ?_
    exact ⟨⟨c.page, c.slot, c.before, ⟨st, d⟩⟩, rfl, ⟨HG.out.page, HG.out.slot, HG.out.before, HS.out⟩, (HD5.out.row 1 rfl (chCells ⟨c.page, c.slot, c.before, ⟨st, d⟩⟩)).bes, (HD5.out.row 1 rfl (chCells ⟨c.page, c.slot, c.before, ⟨st, d⟩⟩)).codes⟩
end Go.Proofs.Ytgljhfofikjbdaa
/- texts of zeros -/
namespace Go.Proofs.Ytgljhfofikjbdaa
open Go.RowKit

def zeroS (n : Nat) : ByteArray := ⟨(List.replicate n 0).toArray⟩
theorem zeroS_size (n : Nat) : (zeroS n).size = n := by show (List.replicate n (0 : UInt8)).toArray.size = n; simp
theorem zeros_conv (w : World) (m : Nat) : Sem.run Try.prog (convert 22 9 (.slice (some ⟨w.heap.size, 0, none⟩) m m)) (w.alloc (.cells (madeCells #[.int .u8 0] m) 5)) = .ok (.string (zeroS m)) (w.alloc (.cells (madeCells #[.int .u8 0] m) 5)) := by
  have := run_convert_bytes_back (P := Try.prog) (w.alloc (.cells (madeCells #[.int .u8 0] m) 5)) 22 9 5 ⟨w.heap.size, 0, none⟩ m (List.replicate m 0) Try.underlying22 Try.underlying5 Try.underlying9 (fun j hj => by
    have ea : (⟨w.heap.size, 0, none⟩ : Addr).add j = ⟨w.heap.size, j, none⟩ := by
      simp only [Addr.add]; split
      · next h => rw [h]
      · simp
    have hl := toList_madeCells_one (.int .u8 0) m
    rw [ea, World.cell?_alloc_new, ← Array.getElem?_toList, hl, List.getElem?_replicate, if_pos (by simpa using hj), List.getElem_replicate]
    rfl)
  rw [List.length_replicate] at this
  exact this
end Go.Proofs.Ytgljhfofikjbdaa
