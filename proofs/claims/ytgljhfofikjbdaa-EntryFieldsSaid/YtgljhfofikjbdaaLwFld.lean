/- the law EntryFields: for every input the call returns true -/
import Derived.Test.YtgljhfofikjbdaaOm5
namespace Go.Proofs.Ytgljhfofikjbdaa
open Go.RowKit
set_option maxRecDepth 20000
set_option linter.unusedSimpArgs false
set_option linter.unusedVariables false

def chgB (k : Int) : Bool := decide (k = 1) || decide (k = 2)
def endB (k : Int) : Bool := decide (k = 3) || (decide (k = 4) || decide (k = 5))
def blbB (k : Int) : Bool := decide (k = 6) || decide (k = 8)
theorem slot_no (c : Chg) : sameV (⟨c.page, 1, c.before, c.after⟩ : Chg) chNil = false := by
  rw [Bool.eq_false_iff]
  intro h
  have := congrArg Chg.slot (sameV_iff.1 h)
  exact absurd this (by show ¬ (1 : Int) = 0; decide)
theorem slot_no' (c : Chg) (p : Int) : sameV (⟨c.page, 1, c.before, c.after⟩ : Chg) ⟨p, 0, emptyCl, emptyCl⟩ = false := by
  rw [Bool.eq_false_iff]
  intro h
  have := congrArg Chg.slot (sameV_iff.1 h)
  exact absurd this (by show ¬ (1 : Int) = 0; decide)
theorem slot_ok {c : Chg} (h : chOkB c = true) : chOkB ⟨c.page, 1, c.before, c.after⟩ = true := by
  obtain ⟨h0, h1, _, _, h4, h5⟩ := chOk_parts h
  exact chOk_of h0 h1 (by show (0 : Int) ≤ 1; decide) (by show (1 : Int) < 16; decide) h4 h5
theorem kinds {e : Ent} (h : entOkB e = true) : e.kind = 1 ∨ e.kind = 2 ∨ e.kind = 3 ∨ e.kind = 4 ∨ e.kind = 5 ∨ e.kind = 6 ∨ e.kind = 7 ∨ e.kind = 8 := by
  unfold entOkB at h
  rw [Bool.and_eq_true] at h
  have := h.1
  unfold kindB at this
  simp at this
  omega
def xS : ByteArray := ⟨#[120]⟩
theorem fld_facts {l k t p g r : Int} {c : Chg} {s : ByteArray} (h : entOkB ⟨l, k, t, p, g, r, c, s⟩ = true) (hl : 10 ≤ l) :
    entOkB ⟨l, k, 3, p, g, r, c, s⟩ = (chgB k || endB k) ∧ entOkB ⟨l, k, t, p, 2, r, c, s⟩ = chgB k ∧ entOkB ⟨l, k, t, p, g, r, c, xS⟩ = blbB k ∧ entOkB ⟨l, k, t, p, g, r, ⟨c.page, 1, c.before, c.after⟩, s⟩ = chgB k ∧ entOkB ⟨l, k, t, l, g, r, c, s⟩ = false := by
  have hk := kinds h
  have hx : xS.size = 1 := rfl
  have h' := h
  unfold entOkB at h
  simp only [Bool.and_eq_true, decide_eq_true_eq] at h
  obtain ⟨_, l1, l2, b1, b2, b3, q0, q1, q2, q3, q4, q5⟩ := h
  have hs4 := fun hc => slot_ok (c := c) hc
  have hn := slot_no c
  have hn' := slot_no' c c.page
  have b4 : befB 2 l = true := by unfold befB; simp; omega
  have b5 : befB l l = false := by unfold befB; simp
  have t3 : isTxB 3 = true := by decide
  have z3 : zeroB 3 = false := by decide
  have z2 : zeroB 2 = false := by decide
  have e1 : noBlobB xS = false := by decide
  have e2 : blobB xS = true := by decide
  simp only at hk l1 l2 b1 b2 b3 q0 q1 q2 q3 q4 q5
  rcases hk with rfl | rfl | rfl | rfl | rfl | rfl | rfl | rfl
  all_goals
    simp only [ruleF, markF, textF, Int.reduceEq, or_true, true_or, or_false, false_or, or_self, reduceIte, if_false, if_true] at q0 q1 q2 q3 q4 q5
    simp only [entOkB, kindB, ruleF, markF, textF, Int.reduceEq, or_true, true_or, or_false, false_or, or_self, reduceIte, if_false, if_true, l1, l2, b1, b2, b3, b4, b5, t3, z3, z2, e1, e2, q0, q1, q2, q3, q4, q5, decide_true, Bool.and_true, Bool.true_and, Bool.and_false, Bool.false_and]
    first
    | (have := hs4 q4; simp [chgB, endB, blbB, this]; done)
    | (simp [chgB, endB, blbB, noChB, aloneB, hn, hn', anyB]; done)
    | (have := hs4 q4; simp [chgB, endB, blbB, this, anyB, posB]; done)
set_option maxHeartbeats 16000000 in
theorem fields_any (x : Option Addr) (len cap : Nat) (zs : List Int) (av : Int) (w : World) (hr : IsRow .u8 w x len cap zs) (hav : 0 ≤ av ∧ av ≤ 255) : Calls Try.prog 7 #[.slice x len cap, .int .u8 av] w fun e w' => e = .returned (.bool true) ∧ Below w.heap.size w w' := by
  have HAv := Lib.hid hav
  clear hav
  have HR := Lib.hid hr
  clear hr
  obtain ⟨fsHUE, huHUE⟩ := under_en
  have HUE := Lib.hid huHUE
  clear huHUE
  go_enter Try.func7, Try.ntmps7
  go_wp2_with fail
  refine (awake_en _).mono ?_
  rintro e w1 ⟨rfl, hb⟩
  have HS0 : Hid (Hp w [] w1) := (Hp.start w).calls hb
  clear hb
  go_wp2_with fail
  refine (new_hp 100 (by omega) HS0.out HR.out).mono ?_
  rintro e w2 ⟨rfl, hs⟩
  have HS1 : Hid (Hp w [.cd w1.heap.size] w2) := hs
  clear hs HS0 HR
  generalize w1.heap.size = C at *
  go_wp2_with fail
  refine (entry_any C _ ((HS1.out).codes 0 rfl)).mono ?_
  rintro e w3 ⟨y, rfl, Hy, hb, hc⟩
  have HS2 : Hid (Hp w [.cd C] w3) := (HS1.out).draws 0 rfl hb hc
  clear hb hc
  clear HS1
  go_upto_region 4 with (first | ((with_reducible refine wpList_alloc_ob 28 (enCells enNil) ?_ ?_); (exact alloc_en); simp only [Act.put, List.setIfInBounds_toArray, List.set_cons_zero, List.set_cons_succ]) | ((with_reducible refine wpList_store_ob 28 (.tmp 5) (w3.heap.size) (enCells y) (enCells enNil) 28 ?_ ?_ ?_ ?_ ?_ ?_ ?_); (exact rfl); (exact rfl); (exact ((HS2.out).put 28 (enCells enNil)).get 1 rfl); (exact info_en); (exact rfl); (exact (oneCell_en _)); skip))
  have HS3 : Hid (Hp w [.cd C, .ob (w3.heap.size) 28 (enCells y)] ((w3.alloc (.cells (enCells enNil).toArray 28)).setRow (w3.heap.size) (enCells y).toArray)) := ((HS2.out).put 28 (enCells enNil)).row 1 rfl (enCells y)
  clear HS2
  generalize ((w3.alloc (.cells (enCells enNil).toArray 28)).setRow (w3.heap.size) (enCells y).toArray) = w4 at *
  generalize w3.heap.size = B1 at *
  go_upto_region 5 with (first | ((with_reducible refine wpList_load_ob 28 (.tmp 5) B1 (enCells y) 28 HUE.out ?_ ?_ ?_ ?_ ?_); (exact rfl); (exact (HS3.out).get 1 rfl); (exact rfl); (exact info_en); simp only [Act.put, List.setIfInBounds_toArray, List.set_cons_zero, List.set_cons_succ]) | ((with_reducible refine wpList_alloc_ob 28 (enCells enNil) ?_ ?_); (exact alloc_en); simp only [Act.put, List.setIfInBounds_toArray, List.set_cons_zero, List.set_cons_succ]) | ((with_reducible refine wpList_store_ob 28 (.tmp 6) (w4.heap.size) (enCells y) (enCells enNil) 28 ?_ ?_ ?_ ?_ ?_ ?_ ?_); (exact rfl); (exact rfl); (exact ((HS3.out).put 28 (enCells enNil)).get 2 rfl); (exact info_en); (exact rfl); (exact (oneCell_en _)); skip))
  have HS4 : Hid (Hp w [.cd C, .ob B1 28 (enCells y), .ob (w4.heap.size) 28 (enCells y)] ((w4.alloc (.cells (enCells enNil).toArray 28)).setRow (w4.heap.size) (enCells y).toArray)) := ((HS3.out).put 28 (enCells enNil)).row 2 rfl (enCells y)
  clear HS3
  generalize ((w4.alloc (.cells (enCells enNil).toArray 28)).setRow (w4.heap.size) (enCells y).toArray) = w5 at *
  generalize w4.heap.size = B2 at *
  obtain ⟨l, k, t, p, g, r, c, s⟩ := y
  have hgd := Hy.out.good
  have HF := Lib.hid (fld_facts Hy.out.ok Hy.out.lsn0)
  have HOk := Lib.hid Hy.out.ok
  have hk := kinds Hy.out.ok
  simp only at hk
  have hp0 : 0 ≤ p := (ent_in Hy.out.ok).ptx.1
  have HV := Lib.hid (fun W => valid_en _ W hgd)
  have HG := Lib.hid hgd
  clear hgd
  rw [HOk.out] at HV
  have hm5 : av.tmod 5 = 0 ∨ av.tmod 5 = 1 ∨ av.tmod 5 = 2 ∨ av.tmod 5 = 3 ∨ av.tmod 5 = 4 := by have := HAv.out; rw [Int.tmod_eq_emod_of_nonneg this.1]; omega
  rcases hm5 with hm | hm | hm | hm | hm
  ·
    have hme : av % 5 = 0 := by have := HAv.out; rw [Int.tmod_eq_emod_of_nonneg this.1] at hm; exact hm
    have hgj : GoodEn ⟨l, k, 3, p, g, r, c, s⟩ := ⟨HG.out.lsn, HG.out.kind, by show (Lit.int .i64 3).wf = true; decide, HG.out.ptx, HG.out.ppg, HG.out.ref, HG.out.ch, HG.out.blob⟩
    have HV2 := Lib.hid (fun W => valid_en _ W hgj)
    have HV3 := Lib.hid (fun W => rvalid_en _ W hgj)
    rw [HF.out.1] at HV2 HV3
    clear hgj
    rcases hk with rfl | rfl | rfl | rfl | rfl | rfl | rfl | rfl
    ·
      have hu : (chgB 1 || endB 1) = true := by decide
      rw [hu] at HV2 HV3
      clear hu
      have c1 : w5.cell? ⟨B1, 1, none⟩ = some (.int .i64 1) := (HS4.out).at 1 rfl 1 rfl
      have d3 : w5.cell? ⟨B2, 3, none⟩ = some (.int .i64 p) := (HS4.out).at 2 rfl 3 rfl
      go_upto_region 12 with (first | ((with_reducible refine wpList_store_fld 3 (.tmp 54) _ B2 2 (.int .i64 3) ([.int .i64 3]) (enCells ⟨l, 1, t, p, g, r, c, s⟩) (enCells ⟨l, 1, 3, p, g, r, c, s⟩) 28 ?_ ?_ ?_ ?_ ?_ ?_ ?_ ?_ ?_); (exact rfl); (exact rfl); (exact rfl); (exact (HS4.out).get 2 rfl); (exact (Nat.le_of_ble_eq_true rfl)); (exact info_int1); (exact (one_int _ _)); (exact rfl); skip))
      have HS5 : Hid (Hp w [.cd C, .ob B1 28 (enCells ⟨l, 1, t, p, g, r, c, s⟩), .ob B2 28 (enCells ⟨l, 1, 3, p, g, r, c, s⟩)] (w5.setRow B2 (enCells ⟨l, 1, 3, p, g, r, c, s⟩).toArray)) := (HS4.out).row 2 rfl (enCells ⟨l, 1, 3, p, g, r, c, s⟩)
      clear HS4
      generalize (w5.setRow B2 (enCells ⟨l, 1, 3, p, g, r, c, s⟩).toArray) = w6 at *
      clear d3 c1
      have d3 : w6.cell? ⟨B2, 3, none⟩ = some (.int .i64 p) := (HS5.out).at 2 rfl 3 rfl
      go_upto_region 21 with (first | ((with_reducible refine wpList_store_fld 3 (.tmp 58) (.tmp 57) B2 3 (.int .i64 p) ([.int .i64 p]) (enCells ⟨l, 1, 3, p, g, r, c, s⟩) (enCells ⟨l, 1, 3, p, g, r, c, s⟩) 28 ?_ ?_ ?_ ?_ ?_ ?_ ?_ ?_ ?_); (exact rfl); (exact rfl); (exact rfl); (exact (HS5.out).get 2 rfl); (exact (Nat.le_of_ble_eq_true rfl)); (exact info_int1); (exact (one_int _ _)); (exact rfl); skip))
      have HS6 : Hid (Hp w [.cd C, .ob B1 28 (enCells ⟨l, 1, t, p, g, r, c, s⟩), .ob B2 28 (enCells ⟨l, 1, 3, p, g, r, c, s⟩)] (w6.setRow B2 (enCells ⟨l, 1, 3, p, g, r, c, s⟩).toArray)) := (HS5.out).row 2 rfl (enCells ⟨l, 1, 3, p, g, r, c, s⟩)
      clear HS5
      generalize (w6.setRow B2 (enCells ⟨l, 1, 3, p, g, r, c, s⟩).toArray) = w7 at *
      clear d3
      go_wp2_with (first | ((with_reducible refine wpList_load_ob 28 (.tmp 5) B1 (enCells ⟨l, 1, t, p, g, r, c, s⟩) 28 HUE.out ?_ ?_ ?_ ?_ ?_); (exact rfl); (exact (HS6.out).get 1 rfl); (exact rfl); (exact info_en); simp only [Act.put, List.setIfInBounds_toArray, List.set_cons_zero, List.set_cons_succ]))
      refine (HV.out _).mono ?_
      rintro e w8 ⟨rfl, hb⟩
      have HS7 : Hid (Hp w [.cd C, .ob B1 28 (enCells ⟨l, 1, t, p, g, r, c, s⟩), .ob B2 28 (enCells ⟨l, 1, 3, p, g, r, c, s⟩)] w8) := (HS6.out).calls hb
      clear hb
      clear HS6
      clear HV
      go_wp2_with (first | ((with_reducible refine wpList_load_ob_w 28 (.tmp 6) B2 (enCells ⟨l, 1, 3, p, g, r, c, s⟩) 28 HUE.out ?_ ?_ ?_ ?_ ?_ ?_); (exact rfl); (exact rfl); (exact (HS7.out).get 2 rfl); (exact rfl); (exact info_en); simp only [Act.put, List.setIfInBounds_toArray, List.set_cons_zero, List.set_cons_succ]))
      refine (HV2.out _).mono ?_
      rintro e w9 ⟨rfl, hb⟩
      have HS8 : Hid (Hp w [.cd C, .ob B1 28 (enCells ⟨l, 1, t, p, g, r, c, s⟩), .ob B2 28 (enCells ⟨l, 1, 3, p, g, r, c, s⟩)] w9) := (HS7.out).calls hb
      clear hb
      clear HS7
      clear HV2
      go_wp2_with (first | ((with_reducible refine wpList_load_ob_w 28 (.tmp 6) B2 (enCells ⟨l, 1, 3, p, g, r, c, s⟩) 28 HUE.out ?_ ?_ ?_ ?_ ?_ ?_); (exact rfl); (exact rfl); (exact (HS8.out).get 2 rfl); (exact rfl); (exact info_en); simp only [Act.put, List.setIfInBounds_toArray, List.set_cons_zero, List.set_cons_succ]))
      refine (HV3.out _).mono ?_
      rintro e w10 ⟨rfl, hb⟩
      have HS9 : Hid (Hp w [.cd C, .ob B1 28 (enCells ⟨l, 1, t, p, g, r, c, s⟩), .ob B2 28 (enCells ⟨l, 1, 3, p, g, r, c, s⟩)] w10) := (HS8.out).calls hb
      clear hb
      clear HS8
      clear HV3
      go_wp2_with fail
      go_ret
      exact ⟨rfl, (HS9.out).old⟩
    ·
      have hu : (chgB 2 || endB 2) = true := by decide
      rw [hu] at HV2 HV3
      clear hu
      have c1 : w5.cell? ⟨B1, 1, none⟩ = some (.int .i64 2) := (HS4.out).at 1 rfl 1 rfl
      have d3 : w5.cell? ⟨B2, 3, none⟩ = some (.int .i64 p) := (HS4.out).at 2 rfl 3 rfl
      go_upto_region 12 with (first | ((with_reducible refine wpList_store_fld 3 (.tmp 54) _ B2 2 (.int .i64 3) ([.int .i64 3]) (enCells ⟨l, 2, t, p, g, r, c, s⟩) (enCells ⟨l, 2, 3, p, g, r, c, s⟩) 28 ?_ ?_ ?_ ?_ ?_ ?_ ?_ ?_ ?_); (exact rfl); (exact rfl); (exact rfl); (exact (HS4.out).get 2 rfl); (exact (Nat.le_of_ble_eq_true rfl)); (exact info_int1); (exact (one_int _ _)); (exact rfl); skip))
      have HS5 : Hid (Hp w [.cd C, .ob B1 28 (enCells ⟨l, 2, t, p, g, r, c, s⟩), .ob B2 28 (enCells ⟨l, 2, 3, p, g, r, c, s⟩)] (w5.setRow B2 (enCells ⟨l, 2, 3, p, g, r, c, s⟩).toArray)) := (HS4.out).row 2 rfl (enCells ⟨l, 2, 3, p, g, r, c, s⟩)
      clear HS4
      generalize (w5.setRow B2 (enCells ⟨l, 2, 3, p, g, r, c, s⟩).toArray) = w6 at *
      clear d3 c1
      have d3 : w6.cell? ⟨B2, 3, none⟩ = some (.int .i64 p) := (HS5.out).at 2 rfl 3 rfl
      go_upto_region 21 with (first | ((with_reducible refine wpList_store_fld 3 (.tmp 58) (.tmp 57) B2 3 (.int .i64 p) ([.int .i64 p]) (enCells ⟨l, 2, 3, p, g, r, c, s⟩) (enCells ⟨l, 2, 3, p, g, r, c, s⟩) 28 ?_ ?_ ?_ ?_ ?_ ?_ ?_ ?_ ?_); (exact rfl); (exact rfl); (exact rfl); (exact (HS5.out).get 2 rfl); (exact (Nat.le_of_ble_eq_true rfl)); (exact info_int1); (exact (one_int _ _)); (exact rfl); skip))
      have HS6 : Hid (Hp w [.cd C, .ob B1 28 (enCells ⟨l, 2, t, p, g, r, c, s⟩), .ob B2 28 (enCells ⟨l, 2, 3, p, g, r, c, s⟩)] (w6.setRow B2 (enCells ⟨l, 2, 3, p, g, r, c, s⟩).toArray)) := (HS5.out).row 2 rfl (enCells ⟨l, 2, 3, p, g, r, c, s⟩)
      clear HS5
      generalize (w6.setRow B2 (enCells ⟨l, 2, 3, p, g, r, c, s⟩).toArray) = w7 at *
      clear d3
      go_wp2_with (first | ((with_reducible refine wpList_load_ob 28 (.tmp 5) B1 (enCells ⟨l, 2, t, p, g, r, c, s⟩) 28 HUE.out ?_ ?_ ?_ ?_ ?_); (exact rfl); (exact (HS6.out).get 1 rfl); (exact rfl); (exact info_en); simp only [Act.put, List.setIfInBounds_toArray, List.set_cons_zero, List.set_cons_succ]))
      refine (HV.out _).mono ?_
      rintro e w8 ⟨rfl, hb⟩
      have HS7 : Hid (Hp w [.cd C, .ob B1 28 (enCells ⟨l, 2, t, p, g, r, c, s⟩), .ob B2 28 (enCells ⟨l, 2, 3, p, g, r, c, s⟩)] w8) := (HS6.out).calls hb
      clear hb
      clear HS6
      clear HV
      go_wp2_with (first | ((with_reducible refine wpList_load_ob_w 28 (.tmp 6) B2 (enCells ⟨l, 2, 3, p, g, r, c, s⟩) 28 HUE.out ?_ ?_ ?_ ?_ ?_ ?_); (exact rfl); (exact rfl); (exact (HS7.out).get 2 rfl); (exact rfl); (exact info_en); simp only [Act.put, List.setIfInBounds_toArray, List.set_cons_zero, List.set_cons_succ]))
      refine (HV2.out _).mono ?_
      rintro e w9 ⟨rfl, hb⟩
      have HS8 : Hid (Hp w [.cd C, .ob B1 28 (enCells ⟨l, 2, t, p, g, r, c, s⟩), .ob B2 28 (enCells ⟨l, 2, 3, p, g, r, c, s⟩)] w9) := (HS7.out).calls hb
      clear hb
      clear HS7
      clear HV2
      go_wp2_with (first | ((with_reducible refine wpList_load_ob_w 28 (.tmp 6) B2 (enCells ⟨l, 2, 3, p, g, r, c, s⟩) 28 HUE.out ?_ ?_ ?_ ?_ ?_ ?_); (exact rfl); (exact rfl); (exact (HS8.out).get 2 rfl); (exact rfl); (exact info_en); simp only [Act.put, List.setIfInBounds_toArray, List.set_cons_zero, List.set_cons_succ]))
      refine (HV3.out _).mono ?_
      rintro e w10 ⟨rfl, hb⟩
      have HS9 : Hid (Hp w [.cd C, .ob B1 28 (enCells ⟨l, 2, t, p, g, r, c, s⟩), .ob B2 28 (enCells ⟨l, 2, 3, p, g, r, c, s⟩)] w10) := (HS8.out).calls hb
      clear hb
      clear HS8
      clear HV3
      go_wp2_with fail
      go_ret
      exact ⟨rfl, (HS9.out).old⟩
    ·
      have hu : (chgB 3 || endB 3) = true := by decide
      rw [hu] at HV2 HV3
      clear hu
      have c1 : w5.cell? ⟨B1, 1, none⟩ = some (.int .i64 3) := (HS4.out).at 1 rfl 1 rfl
      have d3 : w5.cell? ⟨B2, 3, none⟩ = some (.int .i64 p) := (HS4.out).at 2 rfl 3 rfl
      go_upto_region 12 with (first | ((with_reducible refine wpList_store_fld 3 (.tmp 54) _ B2 2 (.int .i64 3) ([.int .i64 3]) (enCells ⟨l, 3, t, p, g, r, c, s⟩) (enCells ⟨l, 3, 3, p, g, r, c, s⟩) 28 ?_ ?_ ?_ ?_ ?_ ?_ ?_ ?_ ?_); (exact rfl); (exact rfl); (exact rfl); (exact (HS4.out).get 2 rfl); (exact (Nat.le_of_ble_eq_true rfl)); (exact info_int1); (exact (one_int _ _)); (exact rfl); skip))
      have HS5 : Hid (Hp w [.cd C, .ob B1 28 (enCells ⟨l, 3, t, p, g, r, c, s⟩), .ob B2 28 (enCells ⟨l, 3, 3, p, g, r, c, s⟩)] (w5.setRow B2 (enCells ⟨l, 3, 3, p, g, r, c, s⟩).toArray)) := (HS4.out).row 2 rfl (enCells ⟨l, 3, 3, p, g, r, c, s⟩)
      clear HS4
      generalize (w5.setRow B2 (enCells ⟨l, 3, 3, p, g, r, c, s⟩).toArray) = w6 at *
      clear d3 c1
      have d3 : w6.cell? ⟨B2, 3, none⟩ = some (.int .i64 p) := (HS5.out).at 2 rfl 3 rfl
      go_upto_region 21 with (first | ((with_reducible refine wpList_store_fld 3 (.tmp 58) (.tmp 57) B2 3 (.int .i64 p) ([.int .i64 p]) (enCells ⟨l, 3, 3, p, g, r, c, s⟩) (enCells ⟨l, 3, 3, p, g, r, c, s⟩) 28 ?_ ?_ ?_ ?_ ?_ ?_ ?_ ?_ ?_); (exact rfl); (exact rfl); (exact rfl); (exact (HS5.out).get 2 rfl); (exact (Nat.le_of_ble_eq_true rfl)); (exact info_int1); (exact (one_int _ _)); (exact rfl); skip))
      have HS6 : Hid (Hp w [.cd C, .ob B1 28 (enCells ⟨l, 3, t, p, g, r, c, s⟩), .ob B2 28 (enCells ⟨l, 3, 3, p, g, r, c, s⟩)] (w6.setRow B2 (enCells ⟨l, 3, 3, p, g, r, c, s⟩).toArray)) := (HS5.out).row 2 rfl (enCells ⟨l, 3, 3, p, g, r, c, s⟩)
      clear HS5
      generalize (w6.setRow B2 (enCells ⟨l, 3, 3, p, g, r, c, s⟩).toArray) = w7 at *
      clear d3
      go_wp2_with (first | ((with_reducible refine wpList_load_ob 28 (.tmp 5) B1 (enCells ⟨l, 3, t, p, g, r, c, s⟩) 28 HUE.out ?_ ?_ ?_ ?_ ?_); (exact rfl); (exact (HS6.out).get 1 rfl); (exact rfl); (exact info_en); simp only [Act.put, List.setIfInBounds_toArray, List.set_cons_zero, List.set_cons_succ]))
      refine (HV.out _).mono ?_
      rintro e w8 ⟨rfl, hb⟩
      have HS7 : Hid (Hp w [.cd C, .ob B1 28 (enCells ⟨l, 3, t, p, g, r, c, s⟩), .ob B2 28 (enCells ⟨l, 3, 3, p, g, r, c, s⟩)] w8) := (HS6.out).calls hb
      clear hb
      clear HS6
      clear HV
      go_wp2_with (first | ((with_reducible refine wpList_load_ob_w 28 (.tmp 6) B2 (enCells ⟨l, 3, 3, p, g, r, c, s⟩) 28 HUE.out ?_ ?_ ?_ ?_ ?_ ?_); (exact rfl); (exact rfl); (exact (HS7.out).get 2 rfl); (exact rfl); (exact info_en); simp only [Act.put, List.setIfInBounds_toArray, List.set_cons_zero, List.set_cons_succ]))
      refine (HV2.out _).mono ?_
      rintro e w9 ⟨rfl, hb⟩
      have HS8 : Hid (Hp w [.cd C, .ob B1 28 (enCells ⟨l, 3, t, p, g, r, c, s⟩), .ob B2 28 (enCells ⟨l, 3, 3, p, g, r, c, s⟩)] w9) := (HS7.out).calls hb
      clear hb
      clear HS7
      clear HV2
      go_wp2_with (first | ((with_reducible refine wpList_load_ob_w 28 (.tmp 6) B2 (enCells ⟨l, 3, 3, p, g, r, c, s⟩) 28 HUE.out ?_ ?_ ?_ ?_ ?_ ?_); (exact rfl); (exact rfl); (exact (HS8.out).get 2 rfl); (exact rfl); (exact info_en); simp only [Act.put, List.setIfInBounds_toArray, List.set_cons_zero, List.set_cons_succ]))
      refine (HV3.out _).mono ?_
      rintro e w10 ⟨rfl, hb⟩
      have HS9 : Hid (Hp w [.cd C, .ob B1 28 (enCells ⟨l, 3, t, p, g, r, c, s⟩), .ob B2 28 (enCells ⟨l, 3, 3, p, g, r, c, s⟩)] w10) := (HS8.out).calls hb
      clear hb
      clear HS8
      clear HV3
      go_wp2_with fail
      go_ret
      exact ⟨rfl, (HS9.out).old⟩
    ·
      have hu : (chgB 4 || endB 4) = true := by decide
      rw [hu] at HV2 HV3
      clear hu
      have c1 : w5.cell? ⟨B1, 1, none⟩ = some (.int .i64 4) := (HS4.out).at 1 rfl 1 rfl
      have d3 : w5.cell? ⟨B2, 3, none⟩ = some (.int .i64 p) := (HS4.out).at 2 rfl 3 rfl
      go_upto_region 12 with (first | ((with_reducible refine wpList_store_fld 3 (.tmp 54) _ B2 2 (.int .i64 3) ([.int .i64 3]) (enCells ⟨l, 4, t, p, g, r, c, s⟩) (enCells ⟨l, 4, 3, p, g, r, c, s⟩) 28 ?_ ?_ ?_ ?_ ?_ ?_ ?_ ?_ ?_); (exact rfl); (exact rfl); (exact rfl); (exact (HS4.out).get 2 rfl); (exact (Nat.le_of_ble_eq_true rfl)); (exact info_int1); (exact (one_int _ _)); (exact rfl); skip))
      have HS5 : Hid (Hp w [.cd C, .ob B1 28 (enCells ⟨l, 4, t, p, g, r, c, s⟩), .ob B2 28 (enCells ⟨l, 4, 3, p, g, r, c, s⟩)] (w5.setRow B2 (enCells ⟨l, 4, 3, p, g, r, c, s⟩).toArray)) := (HS4.out).row 2 rfl (enCells ⟨l, 4, 3, p, g, r, c, s⟩)
      clear HS4
      generalize (w5.setRow B2 (enCells ⟨l, 4, 3, p, g, r, c, s⟩).toArray) = w6 at *
      clear d3 c1
      have d3 : w6.cell? ⟨B2, 3, none⟩ = some (.int .i64 p) := (HS5.out).at 2 rfl 3 rfl
      go_upto_region 21 with (first | ((with_reducible refine wpList_store_fld 3 (.tmp 58) (.tmp 57) B2 3 (.int .i64 p) ([.int .i64 p]) (enCells ⟨l, 4, 3, p, g, r, c, s⟩) (enCells ⟨l, 4, 3, p, g, r, c, s⟩) 28 ?_ ?_ ?_ ?_ ?_ ?_ ?_ ?_ ?_); (exact rfl); (exact rfl); (exact rfl); (exact (HS5.out).get 2 rfl); (exact (Nat.le_of_ble_eq_true rfl)); (exact info_int1); (exact (one_int _ _)); (exact rfl); skip))
      have HS6 : Hid (Hp w [.cd C, .ob B1 28 (enCells ⟨l, 4, t, p, g, r, c, s⟩), .ob B2 28 (enCells ⟨l, 4, 3, p, g, r, c, s⟩)] (w6.setRow B2 (enCells ⟨l, 4, 3, p, g, r, c, s⟩).toArray)) := (HS5.out).row 2 rfl (enCells ⟨l, 4, 3, p, g, r, c, s⟩)
      clear HS5
      generalize (w6.setRow B2 (enCells ⟨l, 4, 3, p, g, r, c, s⟩).toArray) = w7 at *
      clear d3
      go_wp2_with (first | ((with_reducible refine wpList_load_ob 28 (.tmp 5) B1 (enCells ⟨l, 4, t, p, g, r, c, s⟩) 28 HUE.out ?_ ?_ ?_ ?_ ?_); (exact rfl); (exact (HS6.out).get 1 rfl); (exact rfl); (exact info_en); simp only [Act.put, List.setIfInBounds_toArray, List.set_cons_zero, List.set_cons_succ]))
      refine (HV.out _).mono ?_
      rintro e w8 ⟨rfl, hb⟩
      have HS7 : Hid (Hp w [.cd C, .ob B1 28 (enCells ⟨l, 4, t, p, g, r, c, s⟩), .ob B2 28 (enCells ⟨l, 4, 3, p, g, r, c, s⟩)] w8) := (HS6.out).calls hb
      clear hb
      clear HS6
      clear HV
      go_wp2_with (first | ((with_reducible refine wpList_load_ob_w 28 (.tmp 6) B2 (enCells ⟨l, 4, 3, p, g, r, c, s⟩) 28 HUE.out ?_ ?_ ?_ ?_ ?_ ?_); (exact rfl); (exact rfl); (exact (HS7.out).get 2 rfl); (exact rfl); (exact info_en); simp only [Act.put, List.setIfInBounds_toArray, List.set_cons_zero, List.set_cons_succ]))
      refine (HV2.out _).mono ?_
      rintro e w9 ⟨rfl, hb⟩
      have HS8 : Hid (Hp w [.cd C, .ob B1 28 (enCells ⟨l, 4, t, p, g, r, c, s⟩), .ob B2 28 (enCells ⟨l, 4, 3, p, g, r, c, s⟩)] w9) := (HS7.out).calls hb
      clear hb
      clear HS7
      clear HV2
      go_wp2_with (first | ((with_reducible refine wpList_load_ob_w 28 (.tmp 6) B2 (enCells ⟨l, 4, 3, p, g, r, c, s⟩) 28 HUE.out ?_ ?_ ?_ ?_ ?_ ?_); (exact rfl); (exact rfl); (exact (HS8.out).get 2 rfl); (exact rfl); (exact info_en); simp only [Act.put, List.setIfInBounds_toArray, List.set_cons_zero, List.set_cons_succ]))
      refine (HV3.out _).mono ?_
      rintro e w10 ⟨rfl, hb⟩
      have HS9 : Hid (Hp w [.cd C, .ob B1 28 (enCells ⟨l, 4, t, p, g, r, c, s⟩), .ob B2 28 (enCells ⟨l, 4, 3, p, g, r, c, s⟩)] w10) := (HS8.out).calls hb
      clear hb
      clear HS8
      clear HV3
      go_wp2_with fail
      go_ret
      exact ⟨rfl, (HS9.out).old⟩
    ·
      have hu : (chgB 5 || endB 5) = true := by decide
      rw [hu] at HV2 HV3
      clear hu
      have c1 : w5.cell? ⟨B1, 1, none⟩ = some (.int .i64 5) := (HS4.out).at 1 rfl 1 rfl
      have d3 : w5.cell? ⟨B2, 3, none⟩ = some (.int .i64 p) := (HS4.out).at 2 rfl 3 rfl
      go_upto_region 12 with (first | ((with_reducible refine wpList_store_fld 3 (.tmp 54) _ B2 2 (.int .i64 3) ([.int .i64 3]) (enCells ⟨l, 5, t, p, g, r, c, s⟩) (enCells ⟨l, 5, 3, p, g, r, c, s⟩) 28 ?_ ?_ ?_ ?_ ?_ ?_ ?_ ?_ ?_); (exact rfl); (exact rfl); (exact rfl); (exact (HS4.out).get 2 rfl); (exact (Nat.le_of_ble_eq_true rfl)); (exact info_int1); (exact (one_int _ _)); (exact rfl); skip))
      have HS5 : Hid (Hp w [.cd C, .ob B1 28 (enCells ⟨l, 5, t, p, g, r, c, s⟩), .ob B2 28 (enCells ⟨l, 5, 3, p, g, r, c, s⟩)] (w5.setRow B2 (enCells ⟨l, 5, 3, p, g, r, c, s⟩).toArray)) := (HS4.out).row 2 rfl (enCells ⟨l, 5, 3, p, g, r, c, s⟩)
      clear HS4
      generalize (w5.setRow B2 (enCells ⟨l, 5, 3, p, g, r, c, s⟩).toArray) = w6 at *
      clear d3 c1
      have d3 : w6.cell? ⟨B2, 3, none⟩ = some (.int .i64 p) := (HS5.out).at 2 rfl 3 rfl
      go_upto_region 21 with (first | ((with_reducible refine wpList_store_fld 3 (.tmp 58) (.tmp 57) B2 3 (.int .i64 p) ([.int .i64 p]) (enCells ⟨l, 5, 3, p, g, r, c, s⟩) (enCells ⟨l, 5, 3, p, g, r, c, s⟩) 28 ?_ ?_ ?_ ?_ ?_ ?_ ?_ ?_ ?_); (exact rfl); (exact rfl); (exact rfl); (exact (HS5.out).get 2 rfl); (exact (Nat.le_of_ble_eq_true rfl)); (exact info_int1); (exact (one_int _ _)); (exact rfl); skip))
      have HS6 : Hid (Hp w [.cd C, .ob B1 28 (enCells ⟨l, 5, t, p, g, r, c, s⟩), .ob B2 28 (enCells ⟨l, 5, 3, p, g, r, c, s⟩)] (w6.setRow B2 (enCells ⟨l, 5, 3, p, g, r, c, s⟩).toArray)) := (HS5.out).row 2 rfl (enCells ⟨l, 5, 3, p, g, r, c, s⟩)
      clear HS5
      generalize (w6.setRow B2 (enCells ⟨l, 5, 3, p, g, r, c, s⟩).toArray) = w7 at *
      clear d3
      go_wp2_with (first | ((with_reducible refine wpList_load_ob 28 (.tmp 5) B1 (enCells ⟨l, 5, t, p, g, r, c, s⟩) 28 HUE.out ?_ ?_ ?_ ?_ ?_); (exact rfl); (exact (HS6.out).get 1 rfl); (exact rfl); (exact info_en); simp only [Act.put, List.setIfInBounds_toArray, List.set_cons_zero, List.set_cons_succ]))
      refine (HV.out _).mono ?_
      rintro e w8 ⟨rfl, hb⟩
      have HS7 : Hid (Hp w [.cd C, .ob B1 28 (enCells ⟨l, 5, t, p, g, r, c, s⟩), .ob B2 28 (enCells ⟨l, 5, 3, p, g, r, c, s⟩)] w8) := (HS6.out).calls hb
      clear hb
      clear HS6
      clear HV
      go_wp2_with (first | ((with_reducible refine wpList_load_ob_w 28 (.tmp 6) B2 (enCells ⟨l, 5, 3, p, g, r, c, s⟩) 28 HUE.out ?_ ?_ ?_ ?_ ?_ ?_); (exact rfl); (exact rfl); (exact (HS7.out).get 2 rfl); (exact rfl); (exact info_en); simp only [Act.put, List.setIfInBounds_toArray, List.set_cons_zero, List.set_cons_succ]))
      refine (HV2.out _).mono ?_
      rintro e w9 ⟨rfl, hb⟩
      have HS8 : Hid (Hp w [.cd C, .ob B1 28 (enCells ⟨l, 5, t, p, g, r, c, s⟩), .ob B2 28 (enCells ⟨l, 5, 3, p, g, r, c, s⟩)] w9) := (HS7.out).calls hb
      clear hb
      clear HS7
      clear HV2
      go_wp2_with (first | ((with_reducible refine wpList_load_ob_w 28 (.tmp 6) B2 (enCells ⟨l, 5, 3, p, g, r, c, s⟩) 28 HUE.out ?_ ?_ ?_ ?_ ?_ ?_); (exact rfl); (exact rfl); (exact (HS8.out).get 2 rfl); (exact rfl); (exact info_en); simp only [Act.put, List.setIfInBounds_toArray, List.set_cons_zero, List.set_cons_succ]))
      refine (HV3.out _).mono ?_
      rintro e w10 ⟨rfl, hb⟩
      have HS9 : Hid (Hp w [.cd C, .ob B1 28 (enCells ⟨l, 5, t, p, g, r, c, s⟩), .ob B2 28 (enCells ⟨l, 5, 3, p, g, r, c, s⟩)] w10) := (HS8.out).calls hb
      clear hb
      clear HS8
      clear HV3
      go_wp2_with fail
      go_ret
      exact ⟨rfl, (HS9.out).old⟩
    ·
      have hu : (chgB 6 || endB 6) = false := by decide
      rw [hu] at HV2 HV3
      clear hu
      have c1 : w5.cell? ⟨B1, 1, none⟩ = some (.int .i64 6) := (HS4.out).at 1 rfl 1 rfl
      have d3 : w5.cell? ⟨B2, 3, none⟩ = some (.int .i64 p) := (HS4.out).at 2 rfl 3 rfl
      go_upto_region 12 with (first | ((with_reducible refine wpList_store_fld 3 (.tmp 54) _ B2 2 (.int .i64 3) ([.int .i64 3]) (enCells ⟨l, 6, t, p, g, r, c, s⟩) (enCells ⟨l, 6, 3, p, g, r, c, s⟩) 28 ?_ ?_ ?_ ?_ ?_ ?_ ?_ ?_ ?_); (exact rfl); (exact rfl); (exact rfl); (exact (HS4.out).get 2 rfl); (exact (Nat.le_of_ble_eq_true rfl)); (exact info_int1); (exact (one_int _ _)); (exact rfl); skip))
      have HS5 : Hid (Hp w [.cd C, .ob B1 28 (enCells ⟨l, 6, t, p, g, r, c, s⟩), .ob B2 28 (enCells ⟨l, 6, 3, p, g, r, c, s⟩)] (w5.setRow B2 (enCells ⟨l, 6, 3, p, g, r, c, s⟩).toArray)) := (HS4.out).row 2 rfl (enCells ⟨l, 6, 3, p, g, r, c, s⟩)
      clear HS4
      generalize (w5.setRow B2 (enCells ⟨l, 6, 3, p, g, r, c, s⟩).toArray) = w6 at *
      clear d3 c1
      have d3 : w6.cell? ⟨B2, 3, none⟩ = some (.int .i64 p) := (HS5.out).at 2 rfl 3 rfl
      go_upto_region 21 with (first | ((with_reducible refine wpList_store_fld 3 (.tmp 58) (.tmp 57) B2 3 (.int .i64 p) ([.int .i64 p]) (enCells ⟨l, 6, 3, p, g, r, c, s⟩) (enCells ⟨l, 6, 3, p, g, r, c, s⟩) 28 ?_ ?_ ?_ ?_ ?_ ?_ ?_ ?_ ?_); (exact rfl); (exact rfl); (exact rfl); (exact (HS5.out).get 2 rfl); (exact (Nat.le_of_ble_eq_true rfl)); (exact info_int1); (exact (one_int _ _)); (exact rfl); skip))
      have HS6 : Hid (Hp w [.cd C, .ob B1 28 (enCells ⟨l, 6, t, p, g, r, c, s⟩), .ob B2 28 (enCells ⟨l, 6, 3, p, g, r, c, s⟩)] (w6.setRow B2 (enCells ⟨l, 6, 3, p, g, r, c, s⟩).toArray)) := (HS5.out).row 2 rfl (enCells ⟨l, 6, 3, p, g, r, c, s⟩)
      clear HS5
      generalize (w6.setRow B2 (enCells ⟨l, 6, 3, p, g, r, c, s⟩).toArray) = w7 at *
      clear d3
      go_wp2_with (first | ((with_reducible refine wpList_load_ob 28 (.tmp 5) B1 (enCells ⟨l, 6, t, p, g, r, c, s⟩) 28 HUE.out ?_ ?_ ?_ ?_ ?_); (exact rfl); (exact (HS6.out).get 1 rfl); (exact rfl); (exact info_en); simp only [Act.put, List.setIfInBounds_toArray, List.set_cons_zero, List.set_cons_succ]))
      refine (HV.out _).mono ?_
      rintro e w8 ⟨rfl, hb⟩
      have HS7 : Hid (Hp w [.cd C, .ob B1 28 (enCells ⟨l, 6, t, p, g, r, c, s⟩), .ob B2 28 (enCells ⟨l, 6, 3, p, g, r, c, s⟩)] w8) := (HS6.out).calls hb
      clear hb
      clear HS6
      clear HV
      go_wp2_with (first | ((with_reducible refine wpList_load_ob_w 28 (.tmp 6) B2 (enCells ⟨l, 6, 3, p, g, r, c, s⟩) 28 HUE.out ?_ ?_ ?_ ?_ ?_ ?_); (exact rfl); (exact rfl); (exact (HS7.out).get 2 rfl); (exact rfl); (exact info_en); simp only [Act.put, List.setIfInBounds_toArray, List.set_cons_zero, List.set_cons_succ]))
      refine (HV2.out _).mono ?_
      rintro e w9 ⟨rfl, hb⟩
      have HS8 : Hid (Hp w [.cd C, .ob B1 28 (enCells ⟨l, 6, t, p, g, r, c, s⟩), .ob B2 28 (enCells ⟨l, 6, 3, p, g, r, c, s⟩)] w9) := (HS7.out).calls hb
      clear hb
      clear HS7
      clear HV2
      go_wp2_with (first | ((with_reducible refine wpList_load_ob_w 28 (.tmp 6) B2 (enCells ⟨l, 6, 3, p, g, r, c, s⟩) 28 HUE.out ?_ ?_ ?_ ?_ ?_ ?_); (exact rfl); (exact rfl); (exact (HS8.out).get 2 rfl); (exact rfl); (exact info_en); simp only [Act.put, List.setIfInBounds_toArray, List.set_cons_zero, List.set_cons_succ]))
      refine (HV3.out _).mono ?_
      rintro e w10 ⟨rfl, hb⟩
      have HS9 : Hid (Hp w [.cd C, .ob B1 28 (enCells ⟨l, 6, t, p, g, r, c, s⟩), .ob B2 28 (enCells ⟨l, 6, 3, p, g, r, c, s⟩)] w10) := (HS8.out).calls hb
      clear hb
      clear HS8
      clear HV3
      go_wp2_with fail
      go_ret
      exact ⟨rfl, (HS9.out).old⟩
    ·
      have hu : (chgB 7 || endB 7) = false := by decide
      rw [hu] at HV2 HV3
      clear hu
      have c1 : w5.cell? ⟨B1, 1, none⟩ = some (.int .i64 7) := (HS4.out).at 1 rfl 1 rfl
      have d3 : w5.cell? ⟨B2, 3, none⟩ = some (.int .i64 p) := (HS4.out).at 2 rfl 3 rfl
      go_upto_region 12 with (first | ((with_reducible refine wpList_store_fld 3 (.tmp 54) _ B2 2 (.int .i64 3) ([.int .i64 3]) (enCells ⟨l, 7, t, p, g, r, c, s⟩) (enCells ⟨l, 7, 3, p, g, r, c, s⟩) 28 ?_ ?_ ?_ ?_ ?_ ?_ ?_ ?_ ?_); (exact rfl); (exact rfl); (exact rfl); (exact (HS4.out).get 2 rfl); (exact (Nat.le_of_ble_eq_true rfl)); (exact info_int1); (exact (one_int _ _)); (exact rfl); skip))
      have HS5 : Hid (Hp w [.cd C, .ob B1 28 (enCells ⟨l, 7, t, p, g, r, c, s⟩), .ob B2 28 (enCells ⟨l, 7, 3, p, g, r, c, s⟩)] (w5.setRow B2 (enCells ⟨l, 7, 3, p, g, r, c, s⟩).toArray)) := (HS4.out).row 2 rfl (enCells ⟨l, 7, 3, p, g, r, c, s⟩)
      clear HS4
      generalize (w5.setRow B2 (enCells ⟨l, 7, 3, p, g, r, c, s⟩).toArray) = w6 at *
      clear d3 c1
      have d3 : w6.cell? ⟨B2, 3, none⟩ = some (.int .i64 p) := (HS5.out).at 2 rfl 3 rfl
      go_upto_region 21 with (first | ((with_reducible refine wpList_store_fld 3 (.tmp 58) (.tmp 57) B2 3 (.int .i64 p) ([.int .i64 p]) (enCells ⟨l, 7, 3, p, g, r, c, s⟩) (enCells ⟨l, 7, 3, p, g, r, c, s⟩) 28 ?_ ?_ ?_ ?_ ?_ ?_ ?_ ?_ ?_); (exact rfl); (exact rfl); (exact rfl); (exact (HS5.out).get 2 rfl); (exact (Nat.le_of_ble_eq_true rfl)); (exact info_int1); (exact (one_int _ _)); (exact rfl); skip))
      have HS6 : Hid (Hp w [.cd C, .ob B1 28 (enCells ⟨l, 7, t, p, g, r, c, s⟩), .ob B2 28 (enCells ⟨l, 7, 3, p, g, r, c, s⟩)] (w6.setRow B2 (enCells ⟨l, 7, 3, p, g, r, c, s⟩).toArray)) := (HS5.out).row 2 rfl (enCells ⟨l, 7, 3, p, g, r, c, s⟩)
      clear HS5
      generalize (w6.setRow B2 (enCells ⟨l, 7, 3, p, g, r, c, s⟩).toArray) = w7 at *
      clear d3
      go_wp2_with (first | ((with_reducible refine wpList_load_ob 28 (.tmp 5) B1 (enCells ⟨l, 7, t, p, g, r, c, s⟩) 28 HUE.out ?_ ?_ ?_ ?_ ?_); (exact rfl); (exact (HS6.out).get 1 rfl); (exact rfl); (exact info_en); simp only [Act.put, List.setIfInBounds_toArray, List.set_cons_zero, List.set_cons_succ]))
      refine (HV.out _).mono ?_
      rintro e w8 ⟨rfl, hb⟩
      have HS7 : Hid (Hp w [.cd C, .ob B1 28 (enCells ⟨l, 7, t, p, g, r, c, s⟩), .ob B2 28 (enCells ⟨l, 7, 3, p, g, r, c, s⟩)] w8) := (HS6.out).calls hb
      clear hb
      clear HS6
      clear HV
      go_wp2_with (first | ((with_reducible refine wpList_load_ob_w 28 (.tmp 6) B2 (enCells ⟨l, 7, 3, p, g, r, c, s⟩) 28 HUE.out ?_ ?_ ?_ ?_ ?_ ?_); (exact rfl); (exact rfl); (exact (HS7.out).get 2 rfl); (exact rfl); (exact info_en); simp only [Act.put, List.setIfInBounds_toArray, List.set_cons_zero, List.set_cons_succ]))
      refine (HV2.out _).mono ?_
      rintro e w9 ⟨rfl, hb⟩
      have HS8 : Hid (Hp w [.cd C, .ob B1 28 (enCells ⟨l, 7, t, p, g, r, c, s⟩), .ob B2 28 (enCells ⟨l, 7, 3, p, g, r, c, s⟩)] w9) := (HS7.out).calls hb
      clear hb
      clear HS7
      clear HV2
      go_wp2_with (first | ((with_reducible refine wpList_load_ob_w 28 (.tmp 6) B2 (enCells ⟨l, 7, 3, p, g, r, c, s⟩) 28 HUE.out ?_ ?_ ?_ ?_ ?_ ?_); (exact rfl); (exact rfl); (exact (HS8.out).get 2 rfl); (exact rfl); (exact info_en); simp only [Act.put, List.setIfInBounds_toArray, List.set_cons_zero, List.set_cons_succ]))
      refine (HV3.out _).mono ?_
      rintro e w10 ⟨rfl, hb⟩
      have HS9 : Hid (Hp w [.cd C, .ob B1 28 (enCells ⟨l, 7, t, p, g, r, c, s⟩), .ob B2 28 (enCells ⟨l, 7, 3, p, g, r, c, s⟩)] w10) := (HS8.out).calls hb
      clear hb
      clear HS8
      clear HV3
      go_wp2_with fail
      go_ret
      exact ⟨rfl, (HS9.out).old⟩
    ·
      have hu : (chgB 8 || endB 8) = false := by decide
      rw [hu] at HV2 HV3
      clear hu
      have c1 : w5.cell? ⟨B1, 1, none⟩ = some (.int .i64 8) := (HS4.out).at 1 rfl 1 rfl
      have d3 : w5.cell? ⟨B2, 3, none⟩ = some (.int .i64 p) := (HS4.out).at 2 rfl 3 rfl
      go_upto_region 12 with (first | ((with_reducible refine wpList_store_fld 3 (.tmp 54) _ B2 2 (.int .i64 3) ([.int .i64 3]) (enCells ⟨l, 8, t, p, g, r, c, s⟩) (enCells ⟨l, 8, 3, p, g, r, c, s⟩) 28 ?_ ?_ ?_ ?_ ?_ ?_ ?_ ?_ ?_); (exact rfl); (exact rfl); (exact rfl); (exact (HS4.out).get 2 rfl); (exact (Nat.le_of_ble_eq_true rfl)); (exact info_int1); (exact (one_int _ _)); (exact rfl); skip))
      have HS5 : Hid (Hp w [.cd C, .ob B1 28 (enCells ⟨l, 8, t, p, g, r, c, s⟩), .ob B2 28 (enCells ⟨l, 8, 3, p, g, r, c, s⟩)] (w5.setRow B2 (enCells ⟨l, 8, 3, p, g, r, c, s⟩).toArray)) := (HS4.out).row 2 rfl (enCells ⟨l, 8, 3, p, g, r, c, s⟩)
      clear HS4
      generalize (w5.setRow B2 (enCells ⟨l, 8, 3, p, g, r, c, s⟩).toArray) = w6 at *
      clear d3 c1
      have d3 : w6.cell? ⟨B2, 3, none⟩ = some (.int .i64 p) := (HS5.out).at 2 rfl 3 rfl
      go_upto_region 21 with (first | ((with_reducible refine wpList_store_fld 3 (.tmp 58) (.tmp 57) B2 3 (.int .i64 p) ([.int .i64 p]) (enCells ⟨l, 8, 3, p, g, r, c, s⟩) (enCells ⟨l, 8, 3, p, g, r, c, s⟩) 28 ?_ ?_ ?_ ?_ ?_ ?_ ?_ ?_ ?_); (exact rfl); (exact rfl); (exact rfl); (exact (HS5.out).get 2 rfl); (exact (Nat.le_of_ble_eq_true rfl)); (exact info_int1); (exact (one_int _ _)); (exact rfl); skip))
      have HS6 : Hid (Hp w [.cd C, .ob B1 28 (enCells ⟨l, 8, t, p, g, r, c, s⟩), .ob B2 28 (enCells ⟨l, 8, 3, p, g, r, c, s⟩)] (w6.setRow B2 (enCells ⟨l, 8, 3, p, g, r, c, s⟩).toArray)) := (HS5.out).row 2 rfl (enCells ⟨l, 8, 3, p, g, r, c, s⟩)
      clear HS5
      generalize (w6.setRow B2 (enCells ⟨l, 8, 3, p, g, r, c, s⟩).toArray) = w7 at *
      clear d3
      go_wp2_with (first | ((with_reducible refine wpList_load_ob 28 (.tmp 5) B1 (enCells ⟨l, 8, t, p, g, r, c, s⟩) 28 HUE.out ?_ ?_ ?_ ?_ ?_); (exact rfl); (exact (HS6.out).get 1 rfl); (exact rfl); (exact info_en); simp only [Act.put, List.setIfInBounds_toArray, List.set_cons_zero, List.set_cons_succ]))
      refine (HV.out _).mono ?_
      rintro e w8 ⟨rfl, hb⟩
      have HS7 : Hid (Hp w [.cd C, .ob B1 28 (enCells ⟨l, 8, t, p, g, r, c, s⟩), .ob B2 28 (enCells ⟨l, 8, 3, p, g, r, c, s⟩)] w8) := (HS6.out).calls hb
      clear hb
      clear HS6
      clear HV
      go_wp2_with (first | ((with_reducible refine wpList_load_ob_w 28 (.tmp 6) B2 (enCells ⟨l, 8, 3, p, g, r, c, s⟩) 28 HUE.out ?_ ?_ ?_ ?_ ?_ ?_); (exact rfl); (exact rfl); (exact (HS7.out).get 2 rfl); (exact rfl); (exact info_en); simp only [Act.put, List.setIfInBounds_toArray, List.set_cons_zero, List.set_cons_succ]))
      refine (HV2.out _).mono ?_
      rintro e w9 ⟨rfl, hb⟩
      have HS8 : Hid (Hp w [.cd C, .ob B1 28 (enCells ⟨l, 8, t, p, g, r, c, s⟩), .ob B2 28 (enCells ⟨l, 8, 3, p, g, r, c, s⟩)] w9) := (HS7.out).calls hb
      clear hb
      clear HS7
      clear HV2
      go_wp2_with (first | ((with_reducible refine wpList_load_ob_w 28 (.tmp 6) B2 (enCells ⟨l, 8, 3, p, g, r, c, s⟩) 28 HUE.out ?_ ?_ ?_ ?_ ?_ ?_); (exact rfl); (exact rfl); (exact (HS8.out).get 2 rfl); (exact rfl); (exact info_en); simp only [Act.put, List.setIfInBounds_toArray, List.set_cons_zero, List.set_cons_succ]))
      refine (HV3.out _).mono ?_
      rintro e w10 ⟨rfl, hb⟩
      have HS9 : Hid (Hp w [.cd C, .ob B1 28 (enCells ⟨l, 8, t, p, g, r, c, s⟩), .ob B2 28 (enCells ⟨l, 8, 3, p, g, r, c, s⟩)] w10) := (HS8.out).calls hb
      clear hb
      clear HS8
      clear HV3
      go_wp2_with fail
      go_ret
      exact ⟨rfl, (HS9.out).old⟩
  ·
    have hme : av % 5 = 1 := by have := HAv.out; rw [Int.tmod_eq_emod_of_nonneg this.1] at hm; exact hm
    have hgj : GoodEn ⟨l, k, t, p, 2, r, c, s⟩ := ⟨HG.out.lsn, HG.out.kind, HG.out.tx, HG.out.ptx, by show (Lit.int .i64 2).wf = true; decide, HG.out.ref, HG.out.ch, HG.out.blob⟩
    have HV2 := Lib.hid (fun W => valid_en _ W hgj)
    have HV3 := Lib.hid (fun W => rvalid_en _ W hgj)
    rw [HF.out.2.1] at HV2 HV3
    clear hgj
    rcases hk with rfl | rfl | rfl | rfl | rfl | rfl | rfl | rfl
    ·
      have hu : (chgB 1) = true := by decide
      rw [hu] at HV2 HV3
      clear hu
      have c1 : w5.cell? ⟨B1, 1, none⟩ = some (.int .i64 1) := (HS4.out).at 1 rfl 1 rfl
      go_upto_region 21 with (first | ((with_reducible refine wpList_store_fld 3 (.tmp 62) _ B2 4 (.int .i64 2) ([.int .i64 2]) (enCells ⟨l, 1, t, p, g, r, c, s⟩) (enCells ⟨l, 1, t, p, 2, r, c, s⟩) 28 ?_ ?_ ?_ ?_ ?_ ?_ ?_ ?_ ?_); (exact rfl); (exact rfl); (exact rfl); (exact (HS4.out).get 2 rfl); (exact (Nat.le_of_ble_eq_true rfl)); (exact info_int1); (exact (one_int _ _)); (exact rfl); skip))
      have HS5 : Hid (Hp w [.cd C, .ob B1 28 (enCells ⟨l, 1, t, p, g, r, c, s⟩), .ob B2 28 (enCells ⟨l, 1, t, p, 2, r, c, s⟩)] (w5.setRow B2 (enCells ⟨l, 1, t, p, 2, r, c, s⟩).toArray)) := (HS4.out).row 2 rfl (enCells ⟨l, 1, t, p, 2, r, c, s⟩)
      clear HS4
      generalize (w5.setRow B2 (enCells ⟨l, 1, t, p, 2, r, c, s⟩).toArray) = w6 at *
      clear c1
      go_wp2_with (first | ((with_reducible refine wpList_load_ob 28 (.tmp 5) B1 (enCells ⟨l, 1, t, p, g, r, c, s⟩) 28 HUE.out ?_ ?_ ?_ ?_ ?_); (exact rfl); (exact (HS5.out).get 1 rfl); (exact rfl); (exact info_en); simp only [Act.put, List.setIfInBounds_toArray, List.set_cons_zero, List.set_cons_succ]))
      refine (HV.out _).mono ?_
      rintro e w7 ⟨rfl, hb⟩
      have HS6 : Hid (Hp w [.cd C, .ob B1 28 (enCells ⟨l, 1, t, p, g, r, c, s⟩), .ob B2 28 (enCells ⟨l, 1, t, p, 2, r, c, s⟩)] w7) := (HS5.out).calls hb
      clear hb
      clear HS5
      clear HV
      go_wp2_with (first | ((with_reducible refine wpList_load_ob_w 28 (.tmp 6) B2 (enCells ⟨l, 1, t, p, 2, r, c, s⟩) 28 HUE.out ?_ ?_ ?_ ?_ ?_ ?_); (exact rfl); (exact rfl); (exact (HS6.out).get 2 rfl); (exact rfl); (exact info_en); simp only [Act.put, List.setIfInBounds_toArray, List.set_cons_zero, List.set_cons_succ]))
      refine (HV2.out _).mono ?_
      rintro e w8 ⟨rfl, hb⟩
      have HS7 : Hid (Hp w [.cd C, .ob B1 28 (enCells ⟨l, 1, t, p, g, r, c, s⟩), .ob B2 28 (enCells ⟨l, 1, t, p, 2, r, c, s⟩)] w8) := (HS6.out).calls hb
      clear hb
      clear HS6
      clear HV2
      go_wp2_with (first | ((with_reducible refine wpList_load_ob_w 28 (.tmp 6) B2 (enCells ⟨l, 1, t, p, 2, r, c, s⟩) 28 HUE.out ?_ ?_ ?_ ?_ ?_ ?_); (exact rfl); (exact rfl); (exact (HS7.out).get 2 rfl); (exact rfl); (exact info_en); simp only [Act.put, List.setIfInBounds_toArray, List.set_cons_zero, List.set_cons_succ]))
      refine (HV3.out _).mono ?_
      rintro e w9 ⟨rfl, hb⟩
      have HS8 : Hid (Hp w [.cd C, .ob B1 28 (enCells ⟨l, 1, t, p, g, r, c, s⟩), .ob B2 28 (enCells ⟨l, 1, t, p, 2, r, c, s⟩)] w9) := (HS7.out).calls hb
      clear hb
      clear HS7
      clear HV3
      go_wp2_with fail
      go_ret
      exact ⟨rfl, (HS8.out).old⟩
    ·
      have hu : (chgB 2) = true := by decide
      rw [hu] at HV2 HV3
      clear hu
      have c1 : w5.cell? ⟨B1, 1, none⟩ = some (.int .i64 2) := (HS4.out).at 1 rfl 1 rfl
      go_upto_region 21 with (first | ((with_reducible refine wpList_store_fld 3 (.tmp 62) _ B2 4 (.int .i64 2) ([.int .i64 2]) (enCells ⟨l, 2, t, p, g, r, c, s⟩) (enCells ⟨l, 2, t, p, 2, r, c, s⟩) 28 ?_ ?_ ?_ ?_ ?_ ?_ ?_ ?_ ?_); (exact rfl); (exact rfl); (exact rfl); (exact (HS4.out).get 2 rfl); (exact (Nat.le_of_ble_eq_true rfl)); (exact info_int1); (exact (one_int _ _)); (exact rfl); skip))
      have HS5 : Hid (Hp w [.cd C, .ob B1 28 (enCells ⟨l, 2, t, p, g, r, c, s⟩), .ob B2 28 (enCells ⟨l, 2, t, p, 2, r, c, s⟩)] (w5.setRow B2 (enCells ⟨l, 2, t, p, 2, r, c, s⟩).toArray)) := (HS4.out).row 2 rfl (enCells ⟨l, 2, t, p, 2, r, c, s⟩)
      clear HS4
      generalize (w5.setRow B2 (enCells ⟨l, 2, t, p, 2, r, c, s⟩).toArray) = w6 at *
      clear c1
      go_wp2_with (first | ((with_reducible refine wpList_load_ob 28 (.tmp 5) B1 (enCells ⟨l, 2, t, p, g, r, c, s⟩) 28 HUE.out ?_ ?_ ?_ ?_ ?_); (exact rfl); (exact (HS5.out).get 1 rfl); (exact rfl); (exact info_en); simp only [Act.put, List.setIfInBounds_toArray, List.set_cons_zero, List.set_cons_succ]))
      refine (HV.out _).mono ?_
      rintro e w7 ⟨rfl, hb⟩
      have HS6 : Hid (Hp w [.cd C, .ob B1 28 (enCells ⟨l, 2, t, p, g, r, c, s⟩), .ob B2 28 (enCells ⟨l, 2, t, p, 2, r, c, s⟩)] w7) := (HS5.out).calls hb
      clear hb
      clear HS5
      clear HV
      go_wp2_with (first | ((with_reducible refine wpList_load_ob_w 28 (.tmp 6) B2 (enCells ⟨l, 2, t, p, 2, r, c, s⟩) 28 HUE.out ?_ ?_ ?_ ?_ ?_ ?_); (exact rfl); (exact rfl); (exact (HS6.out).get 2 rfl); (exact rfl); (exact info_en); simp only [Act.put, List.setIfInBounds_toArray, List.set_cons_zero, List.set_cons_succ]))
      refine (HV2.out _).mono ?_
      rintro e w8 ⟨rfl, hb⟩
      have HS7 : Hid (Hp w [.cd C, .ob B1 28 (enCells ⟨l, 2, t, p, g, r, c, s⟩), .ob B2 28 (enCells ⟨l, 2, t, p, 2, r, c, s⟩)] w8) := (HS6.out).calls hb
      clear hb
      clear HS6
      clear HV2
      go_wp2_with (first | ((with_reducible refine wpList_load_ob_w 28 (.tmp 6) B2 (enCells ⟨l, 2, t, p, 2, r, c, s⟩) 28 HUE.out ?_ ?_ ?_ ?_ ?_ ?_); (exact rfl); (exact rfl); (exact (HS7.out).get 2 rfl); (exact rfl); (exact info_en); simp only [Act.put, List.setIfInBounds_toArray, List.set_cons_zero, List.set_cons_succ]))
      refine (HV3.out _).mono ?_
      rintro e w9 ⟨rfl, hb⟩
      have HS8 : Hid (Hp w [.cd C, .ob B1 28 (enCells ⟨l, 2, t, p, g, r, c, s⟩), .ob B2 28 (enCells ⟨l, 2, t, p, 2, r, c, s⟩)] w9) := (HS7.out).calls hb
      clear hb
      clear HS7
      clear HV3
      go_wp2_with fail
      go_ret
      exact ⟨rfl, (HS8.out).old⟩
    ·
      have hu : (chgB 3) = false := by decide
      rw [hu] at HV2 HV3
      clear hu
      have c1 : w5.cell? ⟨B1, 1, none⟩ = some (.int .i64 3) := (HS4.out).at 1 rfl 1 rfl
      go_upto_region 21 with (first | ((with_reducible refine wpList_store_fld 3 (.tmp 62) _ B2 4 (.int .i64 2) ([.int .i64 2]) (enCells ⟨l, 3, t, p, g, r, c, s⟩) (enCells ⟨l, 3, t, p, 2, r, c, s⟩) 28 ?_ ?_ ?_ ?_ ?_ ?_ ?_ ?_ ?_); (exact rfl); (exact rfl); (exact rfl); (exact (HS4.out).get 2 rfl); (exact (Nat.le_of_ble_eq_true rfl)); (exact info_int1); (exact (one_int _ _)); (exact rfl); skip))
      have HS5 : Hid (Hp w [.cd C, .ob B1 28 (enCells ⟨l, 3, t, p, g, r, c, s⟩), .ob B2 28 (enCells ⟨l, 3, t, p, 2, r, c, s⟩)] (w5.setRow B2 (enCells ⟨l, 3, t, p, 2, r, c, s⟩).toArray)) := (HS4.out).row 2 rfl (enCells ⟨l, 3, t, p, 2, r, c, s⟩)
      clear HS4
      generalize (w5.setRow B2 (enCells ⟨l, 3, t, p, 2, r, c, s⟩).toArray) = w6 at *
      clear c1
      go_wp2_with (first | ((with_reducible refine wpList_load_ob 28 (.tmp 5) B1 (enCells ⟨l, 3, t, p, g, r, c, s⟩) 28 HUE.out ?_ ?_ ?_ ?_ ?_); (exact rfl); (exact (HS5.out).get 1 rfl); (exact rfl); (exact info_en); simp only [Act.put, List.setIfInBounds_toArray, List.set_cons_zero, List.set_cons_succ]))
      refine (HV.out _).mono ?_
      rintro e w7 ⟨rfl, hb⟩
      have HS6 : Hid (Hp w [.cd C, .ob B1 28 (enCells ⟨l, 3, t, p, g, r, c, s⟩), .ob B2 28 (enCells ⟨l, 3, t, p, 2, r, c, s⟩)] w7) := (HS5.out).calls hb
      clear hb
      clear HS5
      clear HV
      go_wp2_with (first | ((with_reducible refine wpList_load_ob_w 28 (.tmp 6) B2 (enCells ⟨l, 3, t, p, 2, r, c, s⟩) 28 HUE.out ?_ ?_ ?_ ?_ ?_ ?_); (exact rfl); (exact rfl); (exact (HS6.out).get 2 rfl); (exact rfl); (exact info_en); simp only [Act.put, List.setIfInBounds_toArray, List.set_cons_zero, List.set_cons_succ]))
      refine (HV2.out _).mono ?_
      rintro e w8 ⟨rfl, hb⟩
      have HS7 : Hid (Hp w [.cd C, .ob B1 28 (enCells ⟨l, 3, t, p, g, r, c, s⟩), .ob B2 28 (enCells ⟨l, 3, t, p, 2, r, c, s⟩)] w8) := (HS6.out).calls hb
      clear hb
      clear HS6
      clear HV2
      go_wp2_with (first | ((with_reducible refine wpList_load_ob_w 28 (.tmp 6) B2 (enCells ⟨l, 3, t, p, 2, r, c, s⟩) 28 HUE.out ?_ ?_ ?_ ?_ ?_ ?_); (exact rfl); (exact rfl); (exact (HS7.out).get 2 rfl); (exact rfl); (exact info_en); simp only [Act.put, List.setIfInBounds_toArray, List.set_cons_zero, List.set_cons_succ]))
      refine (HV3.out _).mono ?_
      rintro e w9 ⟨rfl, hb⟩
      have HS8 : Hid (Hp w [.cd C, .ob B1 28 (enCells ⟨l, 3, t, p, g, r, c, s⟩), .ob B2 28 (enCells ⟨l, 3, t, p, 2, r, c, s⟩)] w9) := (HS7.out).calls hb
      clear hb
      clear HS7
      clear HV3
      go_wp2_with fail
      go_ret
      exact ⟨rfl, (HS8.out).old⟩
    ·
      have hu : (chgB 4) = false := by decide
      rw [hu] at HV2 HV3
      clear hu
      have c1 : w5.cell? ⟨B1, 1, none⟩ = some (.int .i64 4) := (HS4.out).at 1 rfl 1 rfl
      go_upto_region 21 with (first | ((with_reducible refine wpList_store_fld 3 (.tmp 62) _ B2 4 (.int .i64 2) ([.int .i64 2]) (enCells ⟨l, 4, t, p, g, r, c, s⟩) (enCells ⟨l, 4, t, p, 2, r, c, s⟩) 28 ?_ ?_ ?_ ?_ ?_ ?_ ?_ ?_ ?_); (exact rfl); (exact rfl); (exact rfl); (exact (HS4.out).get 2 rfl); (exact (Nat.le_of_ble_eq_true rfl)); (exact info_int1); (exact (one_int _ _)); (exact rfl); skip))
      have HS5 : Hid (Hp w [.cd C, .ob B1 28 (enCells ⟨l, 4, t, p, g, r, c, s⟩), .ob B2 28 (enCells ⟨l, 4, t, p, 2, r, c, s⟩)] (w5.setRow B2 (enCells ⟨l, 4, t, p, 2, r, c, s⟩).toArray)) := (HS4.out).row 2 rfl (enCells ⟨l, 4, t, p, 2, r, c, s⟩)
      clear HS4
      generalize (w5.setRow B2 (enCells ⟨l, 4, t, p, 2, r, c, s⟩).toArray) = w6 at *
      clear c1
      go_wp2_with (first | ((with_reducible refine wpList_load_ob 28 (.tmp 5) B1 (enCells ⟨l, 4, t, p, g, r, c, s⟩) 28 HUE.out ?_ ?_ ?_ ?_ ?_); (exact rfl); (exact (HS5.out).get 1 rfl); (exact rfl); (exact info_en); simp only [Act.put, List.setIfInBounds_toArray, List.set_cons_zero, List.set_cons_succ]))
      refine (HV.out _).mono ?_
      rintro e w7 ⟨rfl, hb⟩
      have HS6 : Hid (Hp w [.cd C, .ob B1 28 (enCells ⟨l, 4, t, p, g, r, c, s⟩), .ob B2 28 (enCells ⟨l, 4, t, p, 2, r, c, s⟩)] w7) := (HS5.out).calls hb
      clear hb
      clear HS5
      clear HV
      go_wp2_with (first | ((with_reducible refine wpList_load_ob_w 28 (.tmp 6) B2 (enCells ⟨l, 4, t, p, 2, r, c, s⟩) 28 HUE.out ?_ ?_ ?_ ?_ ?_ ?_); (exact rfl); (exact rfl); (exact (HS6.out).get 2 rfl); (exact rfl); (exact info_en); simp only [Act.put, List.setIfInBounds_toArray, List.set_cons_zero, List.set_cons_succ]))
      refine (HV2.out _).mono ?_
      rintro e w8 ⟨rfl, hb⟩
      have HS7 : Hid (Hp w [.cd C, .ob B1 28 (enCells ⟨l, 4, t, p, g, r, c, s⟩), .ob B2 28 (enCells ⟨l, 4, t, p, 2, r, c, s⟩)] w8) := (HS6.out).calls hb
      clear hb
      clear HS6
      clear HV2
      go_wp2_with (first | ((with_reducible refine wpList_load_ob_w 28 (.tmp 6) B2 (enCells ⟨l, 4, t, p, 2, r, c, s⟩) 28 HUE.out ?_ ?_ ?_ ?_ ?_ ?_); (exact rfl); (exact rfl); (exact (HS7.out).get 2 rfl); (exact rfl); (exact info_en); simp only [Act.put, List.setIfInBounds_toArray, List.set_cons_zero, List.set_cons_succ]))
      refine (HV3.out _).mono ?_
      rintro e w9 ⟨rfl, hb⟩
      have HS8 : Hid (Hp w [.cd C, .ob B1 28 (enCells ⟨l, 4, t, p, g, r, c, s⟩), .ob B2 28 (enCells ⟨l, 4, t, p, 2, r, c, s⟩)] w9) := (HS7.out).calls hb
      clear hb
      clear HS7
      clear HV3
      go_wp2_with fail
      go_ret
      exact ⟨rfl, (HS8.out).old⟩
    ·
      have hu : (chgB 5) = false := by decide
      rw [hu] at HV2 HV3
      clear hu
      have c1 : w5.cell? ⟨B1, 1, none⟩ = some (.int .i64 5) := (HS4.out).at 1 rfl 1 rfl
      go_upto_region 21 with (first | ((with_reducible refine wpList_store_fld 3 (.tmp 62) _ B2 4 (.int .i64 2) ([.int .i64 2]) (enCells ⟨l, 5, t, p, g, r, c, s⟩) (enCells ⟨l, 5, t, p, 2, r, c, s⟩) 28 ?_ ?_ ?_ ?_ ?_ ?_ ?_ ?_ ?_); (exact rfl); (exact rfl); (exact rfl); (exact (HS4.out).get 2 rfl); (exact (Nat.le_of_ble_eq_true rfl)); (exact info_int1); (exact (one_int _ _)); (exact rfl); skip))
      have HS5 : Hid (Hp w [.cd C, .ob B1 28 (enCells ⟨l, 5, t, p, g, r, c, s⟩), .ob B2 28 (enCells ⟨l, 5, t, p, 2, r, c, s⟩)] (w5.setRow B2 (enCells ⟨l, 5, t, p, 2, r, c, s⟩).toArray)) := (HS4.out).row 2 rfl (enCells ⟨l, 5, t, p, 2, r, c, s⟩)
      clear HS4
      generalize (w5.setRow B2 (enCells ⟨l, 5, t, p, 2, r, c, s⟩).toArray) = w6 at *
      clear c1
      go_wp2_with (first | ((with_reducible refine wpList_load_ob 28 (.tmp 5) B1 (enCells ⟨l, 5, t, p, g, r, c, s⟩) 28 HUE.out ?_ ?_ ?_ ?_ ?_); (exact rfl); (exact (HS5.out).get 1 rfl); (exact rfl); (exact info_en); simp only [Act.put, List.setIfInBounds_toArray, List.set_cons_zero, List.set_cons_succ]))
      refine (HV.out _).mono ?_
      rintro e w7 ⟨rfl, hb⟩
      have HS6 : Hid (Hp w [.cd C, .ob B1 28 (enCells ⟨l, 5, t, p, g, r, c, s⟩), .ob B2 28 (enCells ⟨l, 5, t, p, 2, r, c, s⟩)] w7) := (HS5.out).calls hb
      clear hb
      clear HS5
      clear HV
      go_wp2_with (first | ((with_reducible refine wpList_load_ob_w 28 (.tmp 6) B2 (enCells ⟨l, 5, t, p, 2, r, c, s⟩) 28 HUE.out ?_ ?_ ?_ ?_ ?_ ?_); (exact rfl); (exact rfl); (exact (HS6.out).get 2 rfl); (exact rfl); (exact info_en); simp only [Act.put, List.setIfInBounds_toArray, List.set_cons_zero, List.set_cons_succ]))
      refine (HV2.out _).mono ?_
      rintro e w8 ⟨rfl, hb⟩
      have HS7 : Hid (Hp w [.cd C, .ob B1 28 (enCells ⟨l, 5, t, p, g, r, c, s⟩), .ob B2 28 (enCells ⟨l, 5, t, p, 2, r, c, s⟩)] w8) := (HS6.out).calls hb
      clear hb
      clear HS6
      clear HV2
      go_wp2_with (first | ((with_reducible refine wpList_load_ob_w 28 (.tmp 6) B2 (enCells ⟨l, 5, t, p, 2, r, c, s⟩) 28 HUE.out ?_ ?_ ?_ ?_ ?_ ?_); (exact rfl); (exact rfl); (exact (HS7.out).get 2 rfl); (exact rfl); (exact info_en); simp only [Act.put, List.setIfInBounds_toArray, List.set_cons_zero, List.set_cons_succ]))
      refine (HV3.out _).mono ?_
      rintro e w9 ⟨rfl, hb⟩
      have HS8 : Hid (Hp w [.cd C, .ob B1 28 (enCells ⟨l, 5, t, p, g, r, c, s⟩), .ob B2 28 (enCells ⟨l, 5, t, p, 2, r, c, s⟩)] w9) := (HS7.out).calls hb
      clear hb
      clear HS7
      clear HV3
      go_wp2_with fail
      go_ret
      exact ⟨rfl, (HS8.out).old⟩
    ·
      have hu : (chgB 6) = false := by decide
      rw [hu] at HV2 HV3
      clear hu
      have c1 : w5.cell? ⟨B1, 1, none⟩ = some (.int .i64 6) := (HS4.out).at 1 rfl 1 rfl
      go_upto_region 21 with (first | ((with_reducible refine wpList_store_fld 3 (.tmp 62) _ B2 4 (.int .i64 2) ([.int .i64 2]) (enCells ⟨l, 6, t, p, g, r, c, s⟩) (enCells ⟨l, 6, t, p, 2, r, c, s⟩) 28 ?_ ?_ ?_ ?_ ?_ ?_ ?_ ?_ ?_); (exact rfl); (exact rfl); (exact rfl); (exact (HS4.out).get 2 rfl); (exact (Nat.le_of_ble_eq_true rfl)); (exact info_int1); (exact (one_int _ _)); (exact rfl); skip))
      have HS5 : Hid (Hp w [.cd C, .ob B1 28 (enCells ⟨l, 6, t, p, g, r, c, s⟩), .ob B2 28 (enCells ⟨l, 6, t, p, 2, r, c, s⟩)] (w5.setRow B2 (enCells ⟨l, 6, t, p, 2, r, c, s⟩).toArray)) := (HS4.out).row 2 rfl (enCells ⟨l, 6, t, p, 2, r, c, s⟩)
      clear HS4
      generalize (w5.setRow B2 (enCells ⟨l, 6, t, p, 2, r, c, s⟩).toArray) = w6 at *
      clear c1
      go_wp2_with (first | ((with_reducible refine wpList_load_ob 28 (.tmp 5) B1 (enCells ⟨l, 6, t, p, g, r, c, s⟩) 28 HUE.out ?_ ?_ ?_ ?_ ?_); (exact rfl); (exact (HS5.out).get 1 rfl); (exact rfl); (exact info_en); simp only [Act.put, List.setIfInBounds_toArray, List.set_cons_zero, List.set_cons_succ]))
      refine (HV.out _).mono ?_
      rintro e w7 ⟨rfl, hb⟩
      have HS6 : Hid (Hp w [.cd C, .ob B1 28 (enCells ⟨l, 6, t, p, g, r, c, s⟩), .ob B2 28 (enCells ⟨l, 6, t, p, 2, r, c, s⟩)] w7) := (HS5.out).calls hb
      clear hb
      clear HS5
      clear HV
      go_wp2_with (first | ((with_reducible refine wpList_load_ob_w 28 (.tmp 6) B2 (enCells ⟨l, 6, t, p, 2, r, c, s⟩) 28 HUE.out ?_ ?_ ?_ ?_ ?_ ?_); (exact rfl); (exact rfl); (exact (HS6.out).get 2 rfl); (exact rfl); (exact info_en); simp only [Act.put, List.setIfInBounds_toArray, List.set_cons_zero, List.set_cons_succ]))
      refine (HV2.out _).mono ?_
      rintro e w8 ⟨rfl, hb⟩
      have HS7 : Hid (Hp w [.cd C, .ob B1 28 (enCells ⟨l, 6, t, p, g, r, c, s⟩), .ob B2 28 (enCells ⟨l, 6, t, p, 2, r, c, s⟩)] w8) := (HS6.out).calls hb
      clear hb
      clear HS6
      clear HV2
      go_wp2_with (first | ((with_reducible refine wpList_load_ob_w 28 (.tmp 6) B2 (enCells ⟨l, 6, t, p, 2, r, c, s⟩) 28 HUE.out ?_ ?_ ?_ ?_ ?_ ?_); (exact rfl); (exact rfl); (exact (HS7.out).get 2 rfl); (exact rfl); (exact info_en); simp only [Act.put, List.setIfInBounds_toArray, List.set_cons_zero, List.set_cons_succ]))
      refine (HV3.out _).mono ?_
      rintro e w9 ⟨rfl, hb⟩
      have HS8 : Hid (Hp w [.cd C, .ob B1 28 (enCells ⟨l, 6, t, p, g, r, c, s⟩), .ob B2 28 (enCells ⟨l, 6, t, p, 2, r, c, s⟩)] w9) := (HS7.out).calls hb
      clear hb
      clear HS7
      clear HV3
      go_wp2_with fail
      go_ret
      exact ⟨rfl, (HS8.out).old⟩
    ·
      have hu : (chgB 7) = false := by decide
      rw [hu] at HV2 HV3
      clear hu
      have c1 : w5.cell? ⟨B1, 1, none⟩ = some (.int .i64 7) := (HS4.out).at 1 rfl 1 rfl
      go_upto_region 21 with (first | ((with_reducible refine wpList_store_fld 3 (.tmp 62) _ B2 4 (.int .i64 2) ([.int .i64 2]) (enCells ⟨l, 7, t, p, g, r, c, s⟩) (enCells ⟨l, 7, t, p, 2, r, c, s⟩) 28 ?_ ?_ ?_ ?_ ?_ ?_ ?_ ?_ ?_); (exact rfl); (exact rfl); (exact rfl); (exact (HS4.out).get 2 rfl); (exact (Nat.le_of_ble_eq_true rfl)); (exact info_int1); (exact (one_int _ _)); (exact rfl); skip))
      have HS5 : Hid (Hp w [.cd C, .ob B1 28 (enCells ⟨l, 7, t, p, g, r, c, s⟩), .ob B2 28 (enCells ⟨l, 7, t, p, 2, r, c, s⟩)] (w5.setRow B2 (enCells ⟨l, 7, t, p, 2, r, c, s⟩).toArray)) := (HS4.out).row 2 rfl (enCells ⟨l, 7, t, p, 2, r, c, s⟩)
      clear HS4
      generalize (w5.setRow B2 (enCells ⟨l, 7, t, p, 2, r, c, s⟩).toArray) = w6 at *
      clear c1
      go_wp2_with (first | ((with_reducible refine wpList_load_ob 28 (.tmp 5) B1 (enCells ⟨l, 7, t, p, g, r, c, s⟩) 28 HUE.out ?_ ?_ ?_ ?_ ?_); (exact rfl); (exact (HS5.out).get 1 rfl); (exact rfl); (exact info_en); simp only [Act.put, List.setIfInBounds_toArray, List.set_cons_zero, List.set_cons_succ]))
      refine (HV.out _).mono ?_
      rintro e w7 ⟨rfl, hb⟩
      have HS6 : Hid (Hp w [.cd C, .ob B1 28 (enCells ⟨l, 7, t, p, g, r, c, s⟩), .ob B2 28 (enCells ⟨l, 7, t, p, 2, r, c, s⟩)] w7) := (HS5.out).calls hb
      clear hb
      clear HS5
      clear HV
      go_wp2_with (first | ((with_reducible refine wpList_load_ob_w 28 (.tmp 6) B2 (enCells ⟨l, 7, t, p, 2, r, c, s⟩) 28 HUE.out ?_ ?_ ?_ ?_ ?_ ?_); (exact rfl); (exact rfl); (exact (HS6.out).get 2 rfl); (exact rfl); (exact info_en); simp only [Act.put, List.setIfInBounds_toArray, List.set_cons_zero, List.set_cons_succ]))
      refine (HV2.out _).mono ?_
      rintro e w8 ⟨rfl, hb⟩
      have HS7 : Hid (Hp w [.cd C, .ob B1 28 (enCells ⟨l, 7, t, p, g, r, c, s⟩), .ob B2 28 (enCells ⟨l, 7, t, p, 2, r, c, s⟩)] w8) := (HS6.out).calls hb
      clear hb
      clear HS6
      clear HV2
      go_wp2_with (first | ((with_reducible refine wpList_load_ob_w 28 (.tmp 6) B2 (enCells ⟨l, 7, t, p, 2, r, c, s⟩) 28 HUE.out ?_ ?_ ?_ ?_ ?_ ?_); (exact rfl); (exact rfl); (exact (HS7.out).get 2 rfl); (exact rfl); (exact info_en); simp only [Act.put, List.setIfInBounds_toArray, List.set_cons_zero, List.set_cons_succ]))
      refine (HV3.out _).mono ?_
      rintro e w9 ⟨rfl, hb⟩
      have HS8 : Hid (Hp w [.cd C, .ob B1 28 (enCells ⟨l, 7, t, p, g, r, c, s⟩), .ob B2 28 (enCells ⟨l, 7, t, p, 2, r, c, s⟩)] w9) := (HS7.out).calls hb
      clear hb
      clear HS7
      clear HV3
      go_wp2_with fail
      go_ret
      exact ⟨rfl, (HS8.out).old⟩
    ·
      have hu : (chgB 8) = false := by decide
      rw [hu] at HV2 HV3
      clear hu
      have c1 : w5.cell? ⟨B1, 1, none⟩ = some (.int .i64 8) := (HS4.out).at 1 rfl 1 rfl
      go_upto_region 21 with (first | ((with_reducible refine wpList_store_fld 3 (.tmp 62) _ B2 4 (.int .i64 2) ([.int .i64 2]) (enCells ⟨l, 8, t, p, g, r, c, s⟩) (enCells ⟨l, 8, t, p, 2, r, c, s⟩) 28 ?_ ?_ ?_ ?_ ?_ ?_ ?_ ?_ ?_); (exact rfl); (exact rfl); (exact rfl); (exact (HS4.out).get 2 rfl); (exact (Nat.le_of_ble_eq_true rfl)); (exact info_int1); (exact (one_int _ _)); (exact rfl); skip))
      have HS5 : Hid (Hp w [.cd C, .ob B1 28 (enCells ⟨l, 8, t, p, g, r, c, s⟩), .ob B2 28 (enCells ⟨l, 8, t, p, 2, r, c, s⟩)] (w5.setRow B2 (enCells ⟨l, 8, t, p, 2, r, c, s⟩).toArray)) := (HS4.out).row 2 rfl (enCells ⟨l, 8, t, p, 2, r, c, s⟩)
      clear HS4
      generalize (w5.setRow B2 (enCells ⟨l, 8, t, p, 2, r, c, s⟩).toArray) = w6 at *
      clear c1
      go_wp2_with (first | ((with_reducible refine wpList_load_ob 28 (.tmp 5) B1 (enCells ⟨l, 8, t, p, g, r, c, s⟩) 28 HUE.out ?_ ?_ ?_ ?_ ?_); (exact rfl); (exact (HS5.out).get 1 rfl); (exact rfl); (exact info_en); simp only [Act.put, List.setIfInBounds_toArray, List.set_cons_zero, List.set_cons_succ]))
      refine (HV.out _).mono ?_
      rintro e w7 ⟨rfl, hb⟩
      have HS6 : Hid (Hp w [.cd C, .ob B1 28 (enCells ⟨l, 8, t, p, g, r, c, s⟩), .ob B2 28 (enCells ⟨l, 8, t, p, 2, r, c, s⟩)] w7) := (HS5.out).calls hb
      clear hb
      clear HS5
      clear HV
      go_wp2_with (first | ((with_reducible refine wpList_load_ob_w 28 (.tmp 6) B2 (enCells ⟨l, 8, t, p, 2, r, c, s⟩) 28 HUE.out ?_ ?_ ?_ ?_ ?_ ?_); (exact rfl); (exact rfl); (exact (HS6.out).get 2 rfl); (exact rfl); (exact info_en); simp only [Act.put, List.setIfInBounds_toArray, List.set_cons_zero, List.set_cons_succ]))
      refine (HV2.out _).mono ?_
      rintro e w8 ⟨rfl, hb⟩
      have HS7 : Hid (Hp w [.cd C, .ob B1 28 (enCells ⟨l, 8, t, p, g, r, c, s⟩), .ob B2 28 (enCells ⟨l, 8, t, p, 2, r, c, s⟩)] w8) := (HS6.out).calls hb
      clear hb
      clear HS6
      clear HV2
      go_wp2_with (first | ((with_reducible refine wpList_load_ob_w 28 (.tmp 6) B2 (enCells ⟨l, 8, t, p, 2, r, c, s⟩) 28 HUE.out ?_ ?_ ?_ ?_ ?_ ?_); (exact rfl); (exact rfl); (exact (HS7.out).get 2 rfl); (exact rfl); (exact info_en); simp only [Act.put, List.setIfInBounds_toArray, List.set_cons_zero, List.set_cons_succ]))
      refine (HV3.out _).mono ?_
      rintro e w9 ⟨rfl, hb⟩
      have HS8 : Hid (Hp w [.cd C, .ob B1 28 (enCells ⟨l, 8, t, p, g, r, c, s⟩), .ob B2 28 (enCells ⟨l, 8, t, p, 2, r, c, s⟩)] w9) := (HS7.out).calls hb
      clear hb
      clear HS7
      clear HV3
      go_wp2_with fail
      go_ret
      exact ⟨rfl, (HS8.out).old⟩
  ·
    have hme : av % 5 = 2 := by have := HAv.out; rw [Int.tmod_eq_emod_of_nonneg this.1] at hm; exact hm
    have hgj : GoodEn ⟨l, k, t, p, g, r, c, xS⟩ := ⟨HG.out.lsn, HG.out.kind, HG.out.tx, HG.out.ptx, HG.out.ppg, HG.out.ref, HG.out.ch, by show xS.size ≤ maxLen; decide⟩
    have HV2 := Lib.hid (fun W => valid_en _ W hgj)
    have HV3 := Lib.hid (fun W => rvalid_en _ W hgj)
    rw [HF.out.2.2.1] at HV2 HV3
    clear hgj
    rcases hk with rfl | rfl | rfl | rfl | rfl | rfl | rfl | rfl
    ·
      have hu : (blbB 1) = false := by decide
      rw [hu] at HV2 HV3
      clear hu
      have c1 : w5.cell? ⟨B1, 1, none⟩ = some (.int .i64 1) := (HS4.out).at 1 rfl 1 rfl
      go_upto_region 21 with (first | ((with_reducible refine wpList_store_fld 9 (.tmp 66) _ B2 12 (.string xS) ([.string xS]) (enCells ⟨l, 1, t, p, g, r, c, s⟩) (enCells ⟨l, 1, t, p, g, r, c, xS⟩) 28 ?_ ?_ ?_ ?_ ?_ ?_ ?_ ?_ ?_); (exact rfl); (exact rfl); (exact rfl); (exact (HS4.out).get 2 rfl); (exact (Nat.le_of_ble_eq_true rfl)); (exact info_str1); (exact (one_str _)); (exact rfl); skip))
      have HS5 : Hid (Hp w [.cd C, .ob B1 28 (enCells ⟨l, 1, t, p, g, r, c, s⟩), .ob B2 28 (enCells ⟨l, 1, t, p, g, r, c, xS⟩)] (w5.setRow B2 (enCells ⟨l, 1, t, p, g, r, c, xS⟩).toArray)) := (HS4.out).row 2 rfl (enCells ⟨l, 1, t, p, g, r, c, xS⟩)
      clear HS4
      generalize (w5.setRow B2 (enCells ⟨l, 1, t, p, g, r, c, xS⟩).toArray) = w6 at *
      clear c1
      go_wp2_with (first | ((with_reducible refine wpList_load_ob 28 (.tmp 5) B1 (enCells ⟨l, 1, t, p, g, r, c, s⟩) 28 HUE.out ?_ ?_ ?_ ?_ ?_); (exact rfl); (exact (HS5.out).get 1 rfl); (exact rfl); (exact info_en); simp only [Act.put, List.setIfInBounds_toArray, List.set_cons_zero, List.set_cons_succ]))
      refine (HV.out _).mono ?_
      rintro e w7 ⟨rfl, hb⟩
      have HS6 : Hid (Hp w [.cd C, .ob B1 28 (enCells ⟨l, 1, t, p, g, r, c, s⟩), .ob B2 28 (enCells ⟨l, 1, t, p, g, r, c, xS⟩)] w7) := (HS5.out).calls hb
      clear hb
      clear HS5
      clear HV
      go_wp2_with (first | ((with_reducible refine wpList_load_ob_w 28 (.tmp 6) B2 (enCells ⟨l, 1, t, p, g, r, c, xS⟩) 28 HUE.out ?_ ?_ ?_ ?_ ?_ ?_); (exact rfl); (exact rfl); (exact (HS6.out).get 2 rfl); (exact rfl); (exact info_en); simp only [Act.put, List.setIfInBounds_toArray, List.set_cons_zero, List.set_cons_succ]))
      refine (HV2.out _).mono ?_
      rintro e w8 ⟨rfl, hb⟩
      have HS7 : Hid (Hp w [.cd C, .ob B1 28 (enCells ⟨l, 1, t, p, g, r, c, s⟩), .ob B2 28 (enCells ⟨l, 1, t, p, g, r, c, xS⟩)] w8) := (HS6.out).calls hb
      clear hb
      clear HS6
      clear HV2
      go_wp2_with (first | ((with_reducible refine wpList_load_ob_w 28 (.tmp 6) B2 (enCells ⟨l, 1, t, p, g, r, c, xS⟩) 28 HUE.out ?_ ?_ ?_ ?_ ?_ ?_); (exact rfl); (exact rfl); (exact (HS7.out).get 2 rfl); (exact rfl); (exact info_en); simp only [Act.put, List.setIfInBounds_toArray, List.set_cons_zero, List.set_cons_succ]))
      refine (HV3.out _).mono ?_
      rintro e w9 ⟨rfl, hb⟩
      have HS8 : Hid (Hp w [.cd C, .ob B1 28 (enCells ⟨l, 1, t, p, g, r, c, s⟩), .ob B2 28 (enCells ⟨l, 1, t, p, g, r, c, xS⟩)] w9) := (HS7.out).calls hb
      clear hb
      clear HS7
      clear HV3
      go_wp2_with fail
      go_ret
      exact ⟨rfl, (HS8.out).old⟩
    ·
      have hu : (blbB 2) = false := by decide
      rw [hu] at HV2 HV3
      clear hu
      have c1 : w5.cell? ⟨B1, 1, none⟩ = some (.int .i64 2) := (HS4.out).at 1 rfl 1 rfl
      go_upto_region 21 with (first | ((with_reducible refine wpList_store_fld 9 (.tmp 66) _ B2 12 (.string xS) ([.string xS]) (enCells ⟨l, 2, t, p, g, r, c, s⟩) (enCells ⟨l, 2, t, p, g, r, c, xS⟩) 28 ?_ ?_ ?_ ?_ ?_ ?_ ?_ ?_ ?_); (exact rfl); (exact rfl); (exact rfl); (exact (HS4.out).get 2 rfl); (exact (Nat.le_of_ble_eq_true rfl)); (exact info_str1); (exact (one_str _)); (exact rfl); skip))
      have HS5 : Hid (Hp w [.cd C, .ob B1 28 (enCells ⟨l, 2, t, p, g, r, c, s⟩), .ob B2 28 (enCells ⟨l, 2, t, p, g, r, c, xS⟩)] (w5.setRow B2 (enCells ⟨l, 2, t, p, g, r, c, xS⟩).toArray)) := (HS4.out).row 2 rfl (enCells ⟨l, 2, t, p, g, r, c, xS⟩)
      clear HS4
      generalize (w5.setRow B2 (enCells ⟨l, 2, t, p, g, r, c, xS⟩).toArray) = w6 at *
      clear c1
      go_wp2_with (first | ((with_reducible refine wpList_load_ob 28 (.tmp 5) B1 (enCells ⟨l, 2, t, p, g, r, c, s⟩) 28 HUE.out ?_ ?_ ?_ ?_ ?_); (exact rfl); (exact (HS5.out).get 1 rfl); (exact rfl); (exact info_en); simp only [Act.put, List.setIfInBounds_toArray, List.set_cons_zero, List.set_cons_succ]))
      refine (HV.out _).mono ?_
      rintro e w7 ⟨rfl, hb⟩
      have HS6 : Hid (Hp w [.cd C, .ob B1 28 (enCells ⟨l, 2, t, p, g, r, c, s⟩), .ob B2 28 (enCells ⟨l, 2, t, p, g, r, c, xS⟩)] w7) := (HS5.out).calls hb
      clear hb
      clear HS5
      clear HV
      go_wp2_with (first | ((with_reducible refine wpList_load_ob_w 28 (.tmp 6) B2 (enCells ⟨l, 2, t, p, g, r, c, xS⟩) 28 HUE.out ?_ ?_ ?_ ?_ ?_ ?_); (exact rfl); (exact rfl); (exact (HS6.out).get 2 rfl); (exact rfl); (exact info_en); simp only [Act.put, List.setIfInBounds_toArray, List.set_cons_zero, List.set_cons_succ]))
      refine (HV2.out _).mono ?_
      rintro e w8 ⟨rfl, hb⟩
      have HS7 : Hid (Hp w [.cd C, .ob B1 28 (enCells ⟨l, 2, t, p, g, r, c, s⟩), .ob B2 28 (enCells ⟨l, 2, t, p, g, r, c, xS⟩)] w8) := (HS6.out).calls hb
      clear hb
      clear HS6
      clear HV2
      go_wp2_with (first | ((with_reducible refine wpList_load_ob_w 28 (.tmp 6) B2 (enCells ⟨l, 2, t, p, g, r, c, xS⟩) 28 HUE.out ?_ ?_ ?_ ?_ ?_ ?_); (exact rfl); (exact rfl); (exact (HS7.out).get 2 rfl); (exact rfl); (exact info_en); simp only [Act.put, List.setIfInBounds_toArray, List.set_cons_zero, List.set_cons_succ]))
      refine (HV3.out _).mono ?_
      rintro e w9 ⟨rfl, hb⟩
      have HS8 : Hid (Hp w [.cd C, .ob B1 28 (enCells ⟨l, 2, t, p, g, r, c, s⟩), .ob B2 28 (enCells ⟨l, 2, t, p, g, r, c, xS⟩)] w9) := (HS7.out).calls hb
      clear hb
      clear HS7
      clear HV3
      go_wp2_with fail
      go_ret
      exact ⟨rfl, (HS8.out).old⟩
    ·
      have hu : (blbB 3) = false := by decide
      rw [hu] at HV2 HV3
      clear hu
      have c1 : w5.cell? ⟨B1, 1, none⟩ = some (.int .i64 3) := (HS4.out).at 1 rfl 1 rfl
      go_upto_region 21 with (first | ((with_reducible refine wpList_store_fld 9 (.tmp 66) _ B2 12 (.string xS) ([.string xS]) (enCells ⟨l, 3, t, p, g, r, c, s⟩) (enCells ⟨l, 3, t, p, g, r, c, xS⟩) 28 ?_ ?_ ?_ ?_ ?_ ?_ ?_ ?_ ?_); (exact rfl); (exact rfl); (exact rfl); (exact (HS4.out).get 2 rfl); (exact (Nat.le_of_ble_eq_true rfl)); (exact info_str1); (exact (one_str _)); (exact rfl); skip))
      have HS5 : Hid (Hp w [.cd C, .ob B1 28 (enCells ⟨l, 3, t, p, g, r, c, s⟩), .ob B2 28 (enCells ⟨l, 3, t, p, g, r, c, xS⟩)] (w5.setRow B2 (enCells ⟨l, 3, t, p, g, r, c, xS⟩).toArray)) := (HS4.out).row 2 rfl (enCells ⟨l, 3, t, p, g, r, c, xS⟩)
      clear HS4
      generalize (w5.setRow B2 (enCells ⟨l, 3, t, p, g, r, c, xS⟩).toArray) = w6 at *
      clear c1
      go_wp2_with (first | ((with_reducible refine wpList_load_ob 28 (.tmp 5) B1 (enCells ⟨l, 3, t, p, g, r, c, s⟩) 28 HUE.out ?_ ?_ ?_ ?_ ?_); (exact rfl); (exact (HS5.out).get 1 rfl); (exact rfl); (exact info_en); simp only [Act.put, List.setIfInBounds_toArray, List.set_cons_zero, List.set_cons_succ]))
      refine (HV.out _).mono ?_
      rintro e w7 ⟨rfl, hb⟩
      have HS6 : Hid (Hp w [.cd C, .ob B1 28 (enCells ⟨l, 3, t, p, g, r, c, s⟩), .ob B2 28 (enCells ⟨l, 3, t, p, g, r, c, xS⟩)] w7) := (HS5.out).calls hb
      clear hb
      clear HS5
      clear HV
      go_wp2_with (first | ((with_reducible refine wpList_load_ob_w 28 (.tmp 6) B2 (enCells ⟨l, 3, t, p, g, r, c, xS⟩) 28 HUE.out ?_ ?_ ?_ ?_ ?_ ?_); (exact rfl); (exact rfl); (exact (HS6.out).get 2 rfl); (exact rfl); (exact info_en); simp only [Act.put, List.setIfInBounds_toArray, List.set_cons_zero, List.set_cons_succ]))
      refine (HV2.out _).mono ?_
      rintro e w8 ⟨rfl, hb⟩
      have HS7 : Hid (Hp w [.cd C, .ob B1 28 (enCells ⟨l, 3, t, p, g, r, c, s⟩), .ob B2 28 (enCells ⟨l, 3, t, p, g, r, c, xS⟩)] w8) := (HS6.out).calls hb
      clear hb
      clear HS6
      clear HV2
      go_wp2_with (first | ((with_reducible refine wpList_load_ob_w 28 (.tmp 6) B2 (enCells ⟨l, 3, t, p, g, r, c, xS⟩) 28 HUE.out ?_ ?_ ?_ ?_ ?_ ?_); (exact rfl); (exact rfl); (exact (HS7.out).get 2 rfl); (exact rfl); (exact info_en); simp only [Act.put, List.setIfInBounds_toArray, List.set_cons_zero, List.set_cons_succ]))
      refine (HV3.out _).mono ?_
      rintro e w9 ⟨rfl, hb⟩
      have HS8 : Hid (Hp w [.cd C, .ob B1 28 (enCells ⟨l, 3, t, p, g, r, c, s⟩), .ob B2 28 (enCells ⟨l, 3, t, p, g, r, c, xS⟩)] w9) := (HS7.out).calls hb
      clear hb
      clear HS7
      clear HV3
      go_wp2_with fail
      go_ret
      exact ⟨rfl, (HS8.out).old⟩
    ·
      have hu : (blbB 4) = false := by decide
      rw [hu] at HV2 HV3
      clear hu
      have c1 : w5.cell? ⟨B1, 1, none⟩ = some (.int .i64 4) := (HS4.out).at 1 rfl 1 rfl
      go_upto_region 21 with (first | ((with_reducible refine wpList_store_fld 9 (.tmp 66) _ B2 12 (.string xS) ([.string xS]) (enCells ⟨l, 4, t, p, g, r, c, s⟩) (enCells ⟨l, 4, t, p, g, r, c, xS⟩) 28 ?_ ?_ ?_ ?_ ?_ ?_ ?_ ?_ ?_); (exact rfl); (exact rfl); (exact rfl); (exact (HS4.out).get 2 rfl); (exact (Nat.le_of_ble_eq_true rfl)); (exact info_str1); (exact (one_str _)); (exact rfl); skip))
      have HS5 : Hid (Hp w [.cd C, .ob B1 28 (enCells ⟨l, 4, t, p, g, r, c, s⟩), .ob B2 28 (enCells ⟨l, 4, t, p, g, r, c, xS⟩)] (w5.setRow B2 (enCells ⟨l, 4, t, p, g, r, c, xS⟩).toArray)) := (HS4.out).row 2 rfl (enCells ⟨l, 4, t, p, g, r, c, xS⟩)
      clear HS4
      generalize (w5.setRow B2 (enCells ⟨l, 4, t, p, g, r, c, xS⟩).toArray) = w6 at *
      clear c1
      go_wp2_with (first | ((with_reducible refine wpList_load_ob 28 (.tmp 5) B1 (enCells ⟨l, 4, t, p, g, r, c, s⟩) 28 HUE.out ?_ ?_ ?_ ?_ ?_); (exact rfl); (exact (HS5.out).get 1 rfl); (exact rfl); (exact info_en); simp only [Act.put, List.setIfInBounds_toArray, List.set_cons_zero, List.set_cons_succ]))
      refine (HV.out _).mono ?_
      rintro e w7 ⟨rfl, hb⟩
      have HS6 : Hid (Hp w [.cd C, .ob B1 28 (enCells ⟨l, 4, t, p, g, r, c, s⟩), .ob B2 28 (enCells ⟨l, 4, t, p, g, r, c, xS⟩)] w7) := (HS5.out).calls hb
      clear hb
      clear HS5
      clear HV
      go_wp2_with (first | ((with_reducible refine wpList_load_ob_w 28 (.tmp 6) B2 (enCells ⟨l, 4, t, p, g, r, c, xS⟩) 28 HUE.out ?_ ?_ ?_ ?_ ?_ ?_); (exact rfl); (exact rfl); (exact (HS6.out).get 2 rfl); (exact rfl); (exact info_en); simp only [Act.put, List.setIfInBounds_toArray, List.set_cons_zero, List.set_cons_succ]))
      refine (HV2.out _).mono ?_
      rintro e w8 ⟨rfl, hb⟩
      have HS7 : Hid (Hp w [.cd C, .ob B1 28 (enCells ⟨l, 4, t, p, g, r, c, s⟩), .ob B2 28 (enCells ⟨l, 4, t, p, g, r, c, xS⟩)] w8) := (HS6.out).calls hb
      clear hb
      clear HS6
      clear HV2
      go_wp2_with (first | ((with_reducible refine wpList_load_ob_w 28 (.tmp 6) B2 (enCells ⟨l, 4, t, p, g, r, c, xS⟩) 28 HUE.out ?_ ?_ ?_ ?_ ?_ ?_); (exact rfl); (exact rfl); (exact (HS7.out).get 2 rfl); (exact rfl); (exact info_en); simp only [Act.put, List.setIfInBounds_toArray, List.set_cons_zero, List.set_cons_succ]))
      refine (HV3.out _).mono ?_
      rintro e w9 ⟨rfl, hb⟩
      have HS8 : Hid (Hp w [.cd C, .ob B1 28 (enCells ⟨l, 4, t, p, g, r, c, s⟩), .ob B2 28 (enCells ⟨l, 4, t, p, g, r, c, xS⟩)] w9) := (HS7.out).calls hb
      clear hb
      clear HS7
      clear HV3
      go_wp2_with fail
      go_ret
      exact ⟨rfl, (HS8.out).old⟩
    ·
      have hu : (blbB 5) = false := by decide
      rw [hu] at HV2 HV3
      clear hu
      have c1 : w5.cell? ⟨B1, 1, none⟩ = some (.int .i64 5) := (HS4.out).at 1 rfl 1 rfl
      go_upto_region 21 with (first | ((with_reducible refine wpList_store_fld 9 (.tmp 66) _ B2 12 (.string xS) ([.string xS]) (enCells ⟨l, 5, t, p, g, r, c, s⟩) (enCells ⟨l, 5, t, p, g, r, c, xS⟩) 28 ?_ ?_ ?_ ?_ ?_ ?_ ?_ ?_ ?_); (exact rfl); (exact rfl); (exact rfl); (exact (HS4.out).get 2 rfl); (exact (Nat.le_of_ble_eq_true rfl)); (exact info_str1); (exact (one_str _)); (exact rfl); skip))
      have HS5 : Hid (Hp w [.cd C, .ob B1 28 (enCells ⟨l, 5, t, p, g, r, c, s⟩), .ob B2 28 (enCells ⟨l, 5, t, p, g, r, c, xS⟩)] (w5.setRow B2 (enCells ⟨l, 5, t, p, g, r, c, xS⟩).toArray)) := (HS4.out).row 2 rfl (enCells ⟨l, 5, t, p, g, r, c, xS⟩)
      clear HS4
      generalize (w5.setRow B2 (enCells ⟨l, 5, t, p, g, r, c, xS⟩).toArray) = w6 at *
      clear c1
      go_wp2_with (first | ((with_reducible refine wpList_load_ob 28 (.tmp 5) B1 (enCells ⟨l, 5, t, p, g, r, c, s⟩) 28 HUE.out ?_ ?_ ?_ ?_ ?_); (exact rfl); (exact (HS5.out).get 1 rfl); (exact rfl); (exact info_en); simp only [Act.put, List.setIfInBounds_toArray, List.set_cons_zero, List.set_cons_succ]))
      refine (HV.out _).mono ?_
      rintro e w7 ⟨rfl, hb⟩
      have HS6 : Hid (Hp w [.cd C, .ob B1 28 (enCells ⟨l, 5, t, p, g, r, c, s⟩), .ob B2 28 (enCells ⟨l, 5, t, p, g, r, c, xS⟩)] w7) := (HS5.out).calls hb
      clear hb
      clear HS5
      clear HV
      go_wp2_with (first | ((with_reducible refine wpList_load_ob_w 28 (.tmp 6) B2 (enCells ⟨l, 5, t, p, g, r, c, xS⟩) 28 HUE.out ?_ ?_ ?_ ?_ ?_ ?_); (exact rfl); (exact rfl); (exact (HS6.out).get 2 rfl); (exact rfl); (exact info_en); simp only [Act.put, List.setIfInBounds_toArray, List.set_cons_zero, List.set_cons_succ]))
      refine (HV2.out _).mono ?_
      rintro e w8 ⟨rfl, hb⟩
      have HS7 : Hid (Hp w [.cd C, .ob B1 28 (enCells ⟨l, 5, t, p, g, r, c, s⟩), .ob B2 28 (enCells ⟨l, 5, t, p, g, r, c, xS⟩)] w8) := (HS6.out).calls hb
      clear hb
      clear HS6
      clear HV2
      go_wp2_with (first | ((with_reducible refine wpList_load_ob_w 28 (.tmp 6) B2 (enCells ⟨l, 5, t, p, g, r, c, xS⟩) 28 HUE.out ?_ ?_ ?_ ?_ ?_ ?_); (exact rfl); (exact rfl); (exact (HS7.out).get 2 rfl); (exact rfl); (exact info_en); simp only [Act.put, List.setIfInBounds_toArray, List.set_cons_zero, List.set_cons_succ]))
      refine (HV3.out _).mono ?_
      rintro e w9 ⟨rfl, hb⟩
      have HS8 : Hid (Hp w [.cd C, .ob B1 28 (enCells ⟨l, 5, t, p, g, r, c, s⟩), .ob B2 28 (enCells ⟨l, 5, t, p, g, r, c, xS⟩)] w9) := (HS7.out).calls hb
      clear hb
      clear HS7
      clear HV3
      go_wp2_with fail
      go_ret
      exact ⟨rfl, (HS8.out).old⟩
    ·
      have hu : (blbB 6) = true := by decide
      rw [hu] at HV2 HV3
      clear hu
      have c1 : w5.cell? ⟨B1, 1, none⟩ = some (.int .i64 6) := (HS4.out).at 1 rfl 1 rfl
      go_upto_region 21 with (first | ((with_reducible refine wpList_store_fld 9 (.tmp 66) _ B2 12 (.string xS) ([.string xS]) (enCells ⟨l, 6, t, p, g, r, c, s⟩) (enCells ⟨l, 6, t, p, g, r, c, xS⟩) 28 ?_ ?_ ?_ ?_ ?_ ?_ ?_ ?_ ?_); (exact rfl); (exact rfl); (exact rfl); (exact (HS4.out).get 2 rfl); (exact (Nat.le_of_ble_eq_true rfl)); (exact info_str1); (exact (one_str _)); (exact rfl); skip))
      have HS5 : Hid (Hp w [.cd C, .ob B1 28 (enCells ⟨l, 6, t, p, g, r, c, s⟩), .ob B2 28 (enCells ⟨l, 6, t, p, g, r, c, xS⟩)] (w5.setRow B2 (enCells ⟨l, 6, t, p, g, r, c, xS⟩).toArray)) := (HS4.out).row 2 rfl (enCells ⟨l, 6, t, p, g, r, c, xS⟩)
      clear HS4
      generalize (w5.setRow B2 (enCells ⟨l, 6, t, p, g, r, c, xS⟩).toArray) = w6 at *
      clear c1
      go_wp2_with (first | ((with_reducible refine wpList_load_ob 28 (.tmp 5) B1 (enCells ⟨l, 6, t, p, g, r, c, s⟩) 28 HUE.out ?_ ?_ ?_ ?_ ?_); (exact rfl); (exact (HS5.out).get 1 rfl); (exact rfl); (exact info_en); simp only [Act.put, List.setIfInBounds_toArray, List.set_cons_zero, List.set_cons_succ]))
      refine (HV.out _).mono ?_
      rintro e w7 ⟨rfl, hb⟩
      have HS6 : Hid (Hp w [.cd C, .ob B1 28 (enCells ⟨l, 6, t, p, g, r, c, s⟩), .ob B2 28 (enCells ⟨l, 6, t, p, g, r, c, xS⟩)] w7) := (HS5.out).calls hb
      clear hb
      clear HS5
      clear HV
      go_wp2_with (first | ((with_reducible refine wpList_load_ob_w 28 (.tmp 6) B2 (enCells ⟨l, 6, t, p, g, r, c, xS⟩) 28 HUE.out ?_ ?_ ?_ ?_ ?_ ?_); (exact rfl); (exact rfl); (exact (HS6.out).get 2 rfl); (exact rfl); (exact info_en); simp only [Act.put, List.setIfInBounds_toArray, List.set_cons_zero, List.set_cons_succ]))
      refine (HV2.out _).mono ?_
      rintro e w8 ⟨rfl, hb⟩
      have HS7 : Hid (Hp w [.cd C, .ob B1 28 (enCells ⟨l, 6, t, p, g, r, c, s⟩), .ob B2 28 (enCells ⟨l, 6, t, p, g, r, c, xS⟩)] w8) := (HS6.out).calls hb
      clear hb
      clear HS6
      clear HV2
      go_wp2_with (first | ((with_reducible refine wpList_load_ob_w 28 (.tmp 6) B2 (enCells ⟨l, 6, t, p, g, r, c, xS⟩) 28 HUE.out ?_ ?_ ?_ ?_ ?_ ?_); (exact rfl); (exact rfl); (exact (HS7.out).get 2 rfl); (exact rfl); (exact info_en); simp only [Act.put, List.setIfInBounds_toArray, List.set_cons_zero, List.set_cons_succ]))
      refine (HV3.out _).mono ?_
      rintro e w9 ⟨rfl, hb⟩
      have HS8 : Hid (Hp w [.cd C, .ob B1 28 (enCells ⟨l, 6, t, p, g, r, c, s⟩), .ob B2 28 (enCells ⟨l, 6, t, p, g, r, c, xS⟩)] w9) := (HS7.out).calls hb
      clear hb
      clear HS7
      clear HV3
      go_wp2_with fail
      go_ret
      exact ⟨rfl, (HS8.out).old⟩
    ·
      have hu : (blbB 7) = false := by decide
      rw [hu] at HV2 HV3
      clear hu
      have c1 : w5.cell? ⟨B1, 1, none⟩ = some (.int .i64 7) := (HS4.out).at 1 rfl 1 rfl
      go_upto_region 21 with (first | ((with_reducible refine wpList_store_fld 9 (.tmp 66) _ B2 12 (.string xS) ([.string xS]) (enCells ⟨l, 7, t, p, g, r, c, s⟩) (enCells ⟨l, 7, t, p, g, r, c, xS⟩) 28 ?_ ?_ ?_ ?_ ?_ ?_ ?_ ?_ ?_); (exact rfl); (exact rfl); (exact rfl); (exact (HS4.out).get 2 rfl); (exact (Nat.le_of_ble_eq_true rfl)); (exact info_str1); (exact (one_str _)); (exact rfl); skip))
      have HS5 : Hid (Hp w [.cd C, .ob B1 28 (enCells ⟨l, 7, t, p, g, r, c, s⟩), .ob B2 28 (enCells ⟨l, 7, t, p, g, r, c, xS⟩)] (w5.setRow B2 (enCells ⟨l, 7, t, p, g, r, c, xS⟩).toArray)) := (HS4.out).row 2 rfl (enCells ⟨l, 7, t, p, g, r, c, xS⟩)
      clear HS4
      generalize (w5.setRow B2 (enCells ⟨l, 7, t, p, g, r, c, xS⟩).toArray) = w6 at *
      clear c1
      go_wp2_with (first | ((with_reducible refine wpList_load_ob 28 (.tmp 5) B1 (enCells ⟨l, 7, t, p, g, r, c, s⟩) 28 HUE.out ?_ ?_ ?_ ?_ ?_); (exact rfl); (exact (HS5.out).get 1 rfl); (exact rfl); (exact info_en); simp only [Act.put, List.setIfInBounds_toArray, List.set_cons_zero, List.set_cons_succ]))
      refine (HV.out _).mono ?_
      rintro e w7 ⟨rfl, hb⟩
      have HS6 : Hid (Hp w [.cd C, .ob B1 28 (enCells ⟨l, 7, t, p, g, r, c, s⟩), .ob B2 28 (enCells ⟨l, 7, t, p, g, r, c, xS⟩)] w7) := (HS5.out).calls hb
      clear hb
      clear HS5
      clear HV
      go_wp2_with (first | ((with_reducible refine wpList_load_ob_w 28 (.tmp 6) B2 (enCells ⟨l, 7, t, p, g, r, c, xS⟩) 28 HUE.out ?_ ?_ ?_ ?_ ?_ ?_); (exact rfl); (exact rfl); (exact (HS6.out).get 2 rfl); (exact rfl); (exact info_en); simp only [Act.put, List.setIfInBounds_toArray, List.set_cons_zero, List.set_cons_succ]))
      refine (HV2.out _).mono ?_
      rintro e w8 ⟨rfl, hb⟩
      have HS7 : Hid (Hp w [.cd C, .ob B1 28 (enCells ⟨l, 7, t, p, g, r, c, s⟩), .ob B2 28 (enCells ⟨l, 7, t, p, g, r, c, xS⟩)] w8) := (HS6.out).calls hb
      clear hb
      clear HS6
      clear HV2
      go_wp2_with (first | ((with_reducible refine wpList_load_ob_w 28 (.tmp 6) B2 (enCells ⟨l, 7, t, p, g, r, c, xS⟩) 28 HUE.out ?_ ?_ ?_ ?_ ?_ ?_); (exact rfl); (exact rfl); (exact (HS7.out).get 2 rfl); (exact rfl); (exact info_en); simp only [Act.put, List.setIfInBounds_toArray, List.set_cons_zero, List.set_cons_succ]))
      refine (HV3.out _).mono ?_
      rintro e w9 ⟨rfl, hb⟩
      have HS8 : Hid (Hp w [.cd C, .ob B1 28 (enCells ⟨l, 7, t, p, g, r, c, s⟩), .ob B2 28 (enCells ⟨l, 7, t, p, g, r, c, xS⟩)] w9) := (HS7.out).calls hb
      clear hb
      clear HS7
      clear HV3
      go_wp2_with fail
      go_ret
      exact ⟨rfl, (HS8.out).old⟩
    ·
      have hu : (blbB 8) = true := by decide
      rw [hu] at HV2 HV3
      clear hu
      have c1 : w5.cell? ⟨B1, 1, none⟩ = some (.int .i64 8) := (HS4.out).at 1 rfl 1 rfl
      go_upto_region 21 with (first | ((with_reducible refine wpList_store_fld 9 (.tmp 66) _ B2 12 (.string xS) ([.string xS]) (enCells ⟨l, 8, t, p, g, r, c, s⟩) (enCells ⟨l, 8, t, p, g, r, c, xS⟩) 28 ?_ ?_ ?_ ?_ ?_ ?_ ?_ ?_ ?_); (exact rfl); (exact rfl); (exact rfl); (exact (HS4.out).get 2 rfl); (exact (Nat.le_of_ble_eq_true rfl)); (exact info_str1); (exact (one_str _)); (exact rfl); skip))
      have HS5 : Hid (Hp w [.cd C, .ob B1 28 (enCells ⟨l, 8, t, p, g, r, c, s⟩), .ob B2 28 (enCells ⟨l, 8, t, p, g, r, c, xS⟩)] (w5.setRow B2 (enCells ⟨l, 8, t, p, g, r, c, xS⟩).toArray)) := (HS4.out).row 2 rfl (enCells ⟨l, 8, t, p, g, r, c, xS⟩)
      clear HS4
      generalize (w5.setRow B2 (enCells ⟨l, 8, t, p, g, r, c, xS⟩).toArray) = w6 at *
      clear c1
      go_wp2_with (first | ((with_reducible refine wpList_load_ob 28 (.tmp 5) B1 (enCells ⟨l, 8, t, p, g, r, c, s⟩) 28 HUE.out ?_ ?_ ?_ ?_ ?_); (exact rfl); (exact (HS5.out).get 1 rfl); (exact rfl); (exact info_en); simp only [Act.put, List.setIfInBounds_toArray, List.set_cons_zero, List.set_cons_succ]))
      refine (HV.out _).mono ?_
      rintro e w7 ⟨rfl, hb⟩
      have HS6 : Hid (Hp w [.cd C, .ob B1 28 (enCells ⟨l, 8, t, p, g, r, c, s⟩), .ob B2 28 (enCells ⟨l, 8, t, p, g, r, c, xS⟩)] w7) := (HS5.out).calls hb
      clear hb
      clear HS5
      clear HV
      go_wp2_with (first | ((with_reducible refine wpList_load_ob_w 28 (.tmp 6) B2 (enCells ⟨l, 8, t, p, g, r, c, xS⟩) 28 HUE.out ?_ ?_ ?_ ?_ ?_ ?_); (exact rfl); (exact rfl); (exact (HS6.out).get 2 rfl); (exact rfl); (exact info_en); simp only [Act.put, List.setIfInBounds_toArray, List.set_cons_zero, List.set_cons_succ]))
      refine (HV2.out _).mono ?_
      rintro e w8 ⟨rfl, hb⟩
      have HS7 : Hid (Hp w [.cd C, .ob B1 28 (enCells ⟨l, 8, t, p, g, r, c, s⟩), .ob B2 28 (enCells ⟨l, 8, t, p, g, r, c, xS⟩)] w8) := (HS6.out).calls hb
      clear hb
      clear HS6
      clear HV2
      go_wp2_with (first | ((with_reducible refine wpList_load_ob_w 28 (.tmp 6) B2 (enCells ⟨l, 8, t, p, g, r, c, xS⟩) 28 HUE.out ?_ ?_ ?_ ?_ ?_ ?_); (exact rfl); (exact rfl); (exact (HS7.out).get 2 rfl); (exact rfl); (exact info_en); simp only [Act.put, List.setIfInBounds_toArray, List.set_cons_zero, List.set_cons_succ]))
      refine (HV3.out _).mono ?_
      rintro e w9 ⟨rfl, hb⟩
      have HS8 : Hid (Hp w [.cd C, .ob B1 28 (enCells ⟨l, 8, t, p, g, r, c, s⟩), .ob B2 28 (enCells ⟨l, 8, t, p, g, r, c, xS⟩)] w9) := (HS7.out).calls hb
      clear hb
      clear HS7
      clear HV3
      go_wp2_with fail
      go_ret
      exact ⟨rfl, (HS8.out).old⟩
  ·
    have hme : av % 5 = 3 := by have := HAv.out; rw [Int.tmod_eq_emod_of_nonneg this.1] at hm; exact hm
    have hgj : GoodEn ⟨l, k, t, p, g, r, ⟨c.page, 1, c.before, c.after⟩, s⟩ := ⟨HG.out.lsn, HG.out.kind, HG.out.tx, HG.out.ptx, HG.out.ppg, HG.out.ref, ⟨HG.out.ch.page, by show (Lit.int .i64 1).wf = true; decide, HG.out.ch.before, HG.out.ch.after⟩, HG.out.blob⟩
    have HV2 := Lib.hid (fun W => valid_en _ W hgj)
    have HV3 := Lib.hid (fun W => rvalid_en _ W hgj)
    rw [HF.out.2.2.2.1] at HV2 HV3
    clear hgj
    rcases hk with rfl | rfl | rfl | rfl | rfl | rfl | rfl | rfl
    ·
      have hu : (chgB 1) = true := by decide
      rw [hu] at HV2 HV3
      clear hu
      have c1 : w5.cell? ⟨B1, 1, none⟩ = some (.int .i64 1) := (HS4.out).at 1 rfl 1 rfl
      go_upto_region 21 with (first | ((with_reducible refine wpList_store_fld 3 (.tmp 71) _ B2 7 (.int .i64 1) ([.int .i64 1]) (enCells ⟨l, 1, t, p, g, r, c, s⟩) (enCells ⟨l, 1, t, p, g, r, ⟨c.page, 1, c.before, c.after⟩, s⟩) 28 ?_ ?_ ?_ ?_ ?_ ?_ ?_ ?_ ?_); (exact rfl); (exact rfl); (exact rfl); (exact (HS4.out).get 2 rfl); (exact (Nat.le_of_ble_eq_true rfl)); (exact info_int1); (exact (one_int _ _)); (exact rfl); skip))
      have HS5 : Hid (Hp w [.cd C, .ob B1 28 (enCells ⟨l, 1, t, p, g, r, c, s⟩), .ob B2 28 (enCells ⟨l, 1, t, p, g, r, ⟨c.page, 1, c.before, c.after⟩, s⟩)] (w5.setRow B2 (enCells ⟨l, 1, t, p, g, r, ⟨c.page, 1, c.before, c.after⟩, s⟩).toArray)) := (HS4.out).row 2 rfl (enCells ⟨l, 1, t, p, g, r, ⟨c.page, 1, c.before, c.after⟩, s⟩)
      clear HS4
      generalize (w5.setRow B2 (enCells ⟨l, 1, t, p, g, r, ⟨c.page, 1, c.before, c.after⟩, s⟩).toArray) = w6 at *
      clear c1
      go_wp2_with (first | ((with_reducible refine wpList_load_ob 28 (.tmp 5) B1 (enCells ⟨l, 1, t, p, g, r, c, s⟩) 28 HUE.out ?_ ?_ ?_ ?_ ?_); (exact rfl); (exact (HS5.out).get 1 rfl); (exact rfl); (exact info_en); simp only [Act.put, List.setIfInBounds_toArray, List.set_cons_zero, List.set_cons_succ]))
      refine (HV.out _).mono ?_
      rintro e w7 ⟨rfl, hb⟩
      have HS6 : Hid (Hp w [.cd C, .ob B1 28 (enCells ⟨l, 1, t, p, g, r, c, s⟩), .ob B2 28 (enCells ⟨l, 1, t, p, g, r, ⟨c.page, 1, c.before, c.after⟩, s⟩)] w7) := (HS5.out).calls hb
      clear hb
      clear HS5
      clear HV
      go_wp2_with (first | ((with_reducible refine wpList_load_ob_w 28 (.tmp 6) B2 (enCells ⟨l, 1, t, p, g, r, ⟨c.page, 1, c.before, c.after⟩, s⟩) 28 HUE.out ?_ ?_ ?_ ?_ ?_ ?_); (exact rfl); (exact rfl); (exact (HS6.out).get 2 rfl); (exact rfl); (exact info_en); simp only [Act.put, List.setIfInBounds_toArray, List.set_cons_zero, List.set_cons_succ]))
      refine (HV2.out _).mono ?_
      rintro e w8 ⟨rfl, hb⟩
      have HS7 : Hid (Hp w [.cd C, .ob B1 28 (enCells ⟨l, 1, t, p, g, r, c, s⟩), .ob B2 28 (enCells ⟨l, 1, t, p, g, r, ⟨c.page, 1, c.before, c.after⟩, s⟩)] w8) := (HS6.out).calls hb
      clear hb
      clear HS6
      clear HV2
      go_wp2_with (first | ((with_reducible refine wpList_load_ob_w 28 (.tmp 6) B2 (enCells ⟨l, 1, t, p, g, r, ⟨c.page, 1, c.before, c.after⟩, s⟩) 28 HUE.out ?_ ?_ ?_ ?_ ?_ ?_); (exact rfl); (exact rfl); (exact (HS7.out).get 2 rfl); (exact rfl); (exact info_en); simp only [Act.put, List.setIfInBounds_toArray, List.set_cons_zero, List.set_cons_succ]))
      refine (HV3.out _).mono ?_
      rintro e w9 ⟨rfl, hb⟩
      have HS8 : Hid (Hp w [.cd C, .ob B1 28 (enCells ⟨l, 1, t, p, g, r, c, s⟩), .ob B2 28 (enCells ⟨l, 1, t, p, g, r, ⟨c.page, 1, c.before, c.after⟩, s⟩)] w9) := (HS7.out).calls hb
      clear hb
      clear HS7
      clear HV3
      go_wp2_with fail
      go_ret
      exact ⟨rfl, (HS8.out).old⟩
    ·
      have hu : (chgB 2) = true := by decide
      rw [hu] at HV2 HV3
      clear hu
      have c1 : w5.cell? ⟨B1, 1, none⟩ = some (.int .i64 2) := (HS4.out).at 1 rfl 1 rfl
      go_upto_region 21 with (first | ((with_reducible refine wpList_store_fld 3 (.tmp 71) _ B2 7 (.int .i64 1) ([.int .i64 1]) (enCells ⟨l, 2, t, p, g, r, c, s⟩) (enCells ⟨l, 2, t, p, g, r, ⟨c.page, 1, c.before, c.after⟩, s⟩) 28 ?_ ?_ ?_ ?_ ?_ ?_ ?_ ?_ ?_); (exact rfl); (exact rfl); (exact rfl); (exact (HS4.out).get 2 rfl); (exact (Nat.le_of_ble_eq_true rfl)); (exact info_int1); (exact (one_int _ _)); (exact rfl); skip))
      have HS5 : Hid (Hp w [.cd C, .ob B1 28 (enCells ⟨l, 2, t, p, g, r, c, s⟩), .ob B2 28 (enCells ⟨l, 2, t, p, g, r, ⟨c.page, 1, c.before, c.after⟩, s⟩)] (w5.setRow B2 (enCells ⟨l, 2, t, p, g, r, ⟨c.page, 1, c.before, c.after⟩, s⟩).toArray)) := (HS4.out).row 2 rfl (enCells ⟨l, 2, t, p, g, r, ⟨c.page, 1, c.before, c.after⟩, s⟩)
      clear HS4
      generalize (w5.setRow B2 (enCells ⟨l, 2, t, p, g, r, ⟨c.page, 1, c.before, c.after⟩, s⟩).toArray) = w6 at *
      clear c1
      go_wp2_with (first | ((with_reducible refine wpList_load_ob 28 (.tmp 5) B1 (enCells ⟨l, 2, t, p, g, r, c, s⟩) 28 HUE.out ?_ ?_ ?_ ?_ ?_); (exact rfl); (exact (HS5.out).get 1 rfl); (exact rfl); (exact info_en); simp only [Act.put, List.setIfInBounds_toArray, List.set_cons_zero, List.set_cons_succ]))
      refine (HV.out _).mono ?_
      rintro e w7 ⟨rfl, hb⟩
      have HS6 : Hid (Hp w [.cd C, .ob B1 28 (enCells ⟨l, 2, t, p, g, r, c, s⟩), .ob B2 28 (enCells ⟨l, 2, t, p, g, r, ⟨c.page, 1, c.before, c.after⟩, s⟩)] w7) := (HS5.out).calls hb
      clear hb
      clear HS5
      clear HV
      go_wp2_with (first | ((with_reducible refine wpList_load_ob_w 28 (.tmp 6) B2 (enCells ⟨l, 2, t, p, g, r, ⟨c.page, 1, c.before, c.after⟩, s⟩) 28 HUE.out ?_ ?_ ?_ ?_ ?_ ?_); (exact rfl); (exact rfl); (exact (HS6.out).get 2 rfl); (exact rfl); (exact info_en); simp only [Act.put, List.setIfInBounds_toArray, List.set_cons_zero, List.set_cons_succ]))
      refine (HV2.out _).mono ?_
      rintro e w8 ⟨rfl, hb⟩
      have HS7 : Hid (Hp w [.cd C, .ob B1 28 (enCells ⟨l, 2, t, p, g, r, c, s⟩), .ob B2 28 (enCells ⟨l, 2, t, p, g, r, ⟨c.page, 1, c.before, c.after⟩, s⟩)] w8) := (HS6.out).calls hb
      clear hb
      clear HS6
      clear HV2
      go_wp2_with (first | ((with_reducible refine wpList_load_ob_w 28 (.tmp 6) B2 (enCells ⟨l, 2, t, p, g, r, ⟨c.page, 1, c.before, c.after⟩, s⟩) 28 HUE.out ?_ ?_ ?_ ?_ ?_ ?_); (exact rfl); (exact rfl); (exact (HS7.out).get 2 rfl); (exact rfl); (exact info_en); simp only [Act.put, List.setIfInBounds_toArray, List.set_cons_zero, List.set_cons_succ]))
      refine (HV3.out _).mono ?_
      rintro e w9 ⟨rfl, hb⟩
      have HS8 : Hid (Hp w [.cd C, .ob B1 28 (enCells ⟨l, 2, t, p, g, r, c, s⟩), .ob B2 28 (enCells ⟨l, 2, t, p, g, r, ⟨c.page, 1, c.before, c.after⟩, s⟩)] w9) := (HS7.out).calls hb
      clear hb
      clear HS7
      clear HV3
      go_wp2_with fail
      go_ret
      exact ⟨rfl, (HS8.out).old⟩
    ·
      have hu : (chgB 3) = false := by decide
      rw [hu] at HV2 HV3
      clear hu
      have c1 : w5.cell? ⟨B1, 1, none⟩ = some (.int .i64 3) := (HS4.out).at 1 rfl 1 rfl
      go_upto_region 21 with (first | ((with_reducible refine wpList_store_fld 3 (.tmp 71) _ B2 7 (.int .i64 1) ([.int .i64 1]) (enCells ⟨l, 3, t, p, g, r, c, s⟩) (enCells ⟨l, 3, t, p, g, r, ⟨c.page, 1, c.before, c.after⟩, s⟩) 28 ?_ ?_ ?_ ?_ ?_ ?_ ?_ ?_ ?_); (exact rfl); (exact rfl); (exact rfl); (exact (HS4.out).get 2 rfl); (exact (Nat.le_of_ble_eq_true rfl)); (exact info_int1); (exact (one_int _ _)); (exact rfl); skip))
      have HS5 : Hid (Hp w [.cd C, .ob B1 28 (enCells ⟨l, 3, t, p, g, r, c, s⟩), .ob B2 28 (enCells ⟨l, 3, t, p, g, r, ⟨c.page, 1, c.before, c.after⟩, s⟩)] (w5.setRow B2 (enCells ⟨l, 3, t, p, g, r, ⟨c.page, 1, c.before, c.after⟩, s⟩).toArray)) := (HS4.out).row 2 rfl (enCells ⟨l, 3, t, p, g, r, ⟨c.page, 1, c.before, c.after⟩, s⟩)
      clear HS4
      generalize (w5.setRow B2 (enCells ⟨l, 3, t, p, g, r, ⟨c.page, 1, c.before, c.after⟩, s⟩).toArray) = w6 at *
      clear c1
      go_wp2_with (first | ((with_reducible refine wpList_load_ob 28 (.tmp 5) B1 (enCells ⟨l, 3, t, p, g, r, c, s⟩) 28 HUE.out ?_ ?_ ?_ ?_ ?_); (exact rfl); (exact (HS5.out).get 1 rfl); (exact rfl); (exact info_en); simp only [Act.put, List.setIfInBounds_toArray, List.set_cons_zero, List.set_cons_succ]))
      refine (HV.out _).mono ?_
      rintro e w7 ⟨rfl, hb⟩
      have HS6 : Hid (Hp w [.cd C, .ob B1 28 (enCells ⟨l, 3, t, p, g, r, c, s⟩), .ob B2 28 (enCells ⟨l, 3, t, p, g, r, ⟨c.page, 1, c.before, c.after⟩, s⟩)] w7) := (HS5.out).calls hb
      clear hb
      clear HS5
      clear HV
      go_wp2_with (first | ((with_reducible refine wpList_load_ob_w 28 (.tmp 6) B2 (enCells ⟨l, 3, t, p, g, r, ⟨c.page, 1, c.before, c.after⟩, s⟩) 28 HUE.out ?_ ?_ ?_ ?_ ?_ ?_); (exact rfl); (exact rfl); (exact (HS6.out).get 2 rfl); (exact rfl); (exact info_en); simp only [Act.put, List.setIfInBounds_toArray, List.set_cons_zero, List.set_cons_succ]))
      refine (HV2.out _).mono ?_
      rintro e w8 ⟨rfl, hb⟩
      have HS7 : Hid (Hp w [.cd C, .ob B1 28 (enCells ⟨l, 3, t, p, g, r, c, s⟩), .ob B2 28 (enCells ⟨l, 3, t, p, g, r, ⟨c.page, 1, c.before, c.after⟩, s⟩)] w8) := (HS6.out).calls hb
      clear hb
      clear HS6
      clear HV2
      go_wp2_with (first | ((with_reducible refine wpList_load_ob_w 28 (.tmp 6) B2 (enCells ⟨l, 3, t, p, g, r, ⟨c.page, 1, c.before, c.after⟩, s⟩) 28 HUE.out ?_ ?_ ?_ ?_ ?_ ?_); (exact rfl); (exact rfl); (exact (HS7.out).get 2 rfl); (exact rfl); (exact info_en); simp only [Act.put, List.setIfInBounds_toArray, List.set_cons_zero, List.set_cons_succ]))
      refine (HV3.out _).mono ?_
      rintro e w9 ⟨rfl, hb⟩
      have HS8 : Hid (Hp w [.cd C, .ob B1 28 (enCells ⟨l, 3, t, p, g, r, c, s⟩), .ob B2 28 (enCells ⟨l, 3, t, p, g, r, ⟨c.page, 1, c.before, c.after⟩, s⟩)] w9) := (HS7.out).calls hb
      clear hb
      clear HS7
      clear HV3
      go_wp2_with fail
      go_ret
      exact ⟨rfl, (HS8.out).old⟩
    ·
      have hu : (chgB 4) = false := by decide
      rw [hu] at HV2 HV3
      clear hu
      have c1 : w5.cell? ⟨B1, 1, none⟩ = some (.int .i64 4) := (HS4.out).at 1 rfl 1 rfl
      go_upto_region 21 with (first | ((with_reducible refine wpList_store_fld 3 (.tmp 71) _ B2 7 (.int .i64 1) ([.int .i64 1]) (enCells ⟨l, 4, t, p, g, r, c, s⟩) (enCells ⟨l, 4, t, p, g, r, ⟨c.page, 1, c.before, c.after⟩, s⟩) 28 ?_ ?_ ?_ ?_ ?_ ?_ ?_ ?_ ?_); (exact rfl); (exact rfl); (exact rfl); (exact (HS4.out).get 2 rfl); (exact (Nat.le_of_ble_eq_true rfl)); (exact info_int1); (exact (one_int _ _)); (exact rfl); skip))
      have HS5 : Hid (Hp w [.cd C, .ob B1 28 (enCells ⟨l, 4, t, p, g, r, c, s⟩), .ob B2 28 (enCells ⟨l, 4, t, p, g, r, ⟨c.page, 1, c.before, c.after⟩, s⟩)] (w5.setRow B2 (enCells ⟨l, 4, t, p, g, r, ⟨c.page, 1, c.before, c.after⟩, s⟩).toArray)) := (HS4.out).row 2 rfl (enCells ⟨l, 4, t, p, g, r, ⟨c.page, 1, c.before, c.after⟩, s⟩)
      clear HS4
      generalize (w5.setRow B2 (enCells ⟨l, 4, t, p, g, r, ⟨c.page, 1, c.before, c.after⟩, s⟩).toArray) = w6 at *
      clear c1
      go_wp2_with (first | ((with_reducible refine wpList_load_ob 28 (.tmp 5) B1 (enCells ⟨l, 4, t, p, g, r, c, s⟩) 28 HUE.out ?_ ?_ ?_ ?_ ?_); (exact rfl); (exact (HS5.out).get 1 rfl); (exact rfl); (exact info_en); simp only [Act.put, List.setIfInBounds_toArray, List.set_cons_zero, List.set_cons_succ]))
      refine (HV.out _).mono ?_
      rintro e w7 ⟨rfl, hb⟩
      have HS6 : Hid (Hp w [.cd C, .ob B1 28 (enCells ⟨l, 4, t, p, g, r, c, s⟩), .ob B2 28 (enCells ⟨l, 4, t, p, g, r, ⟨c.page, 1, c.before, c.after⟩, s⟩)] w7) := (HS5.out).calls hb
      clear hb
      clear HS5
      clear HV
      go_wp2_with (first | ((with_reducible refine wpList_load_ob_w 28 (.tmp 6) B2 (enCells ⟨l, 4, t, p, g, r, ⟨c.page, 1, c.before, c.after⟩, s⟩) 28 HUE.out ?_ ?_ ?_ ?_ ?_ ?_); (exact rfl); (exact rfl); (exact (HS6.out).get 2 rfl); (exact rfl); (exact info_en); simp only [Act.put, List.setIfInBounds_toArray, List.set_cons_zero, List.set_cons_succ]))
      refine (HV2.out _).mono ?_
      rintro e w8 ⟨rfl, hb⟩
      have HS7 : Hid (Hp w [.cd C, .ob B1 28 (enCells ⟨l, 4, t, p, g, r, c, s⟩), .ob B2 28 (enCells ⟨l, 4, t, p, g, r, ⟨c.page, 1, c.before, c.after⟩, s⟩)] w8) := (HS6.out).calls hb
      clear hb
      clear HS6
      clear HV2
      go_wp2_with (first | ((with_reducible refine wpList_load_ob_w 28 (.tmp 6) B2 (enCells ⟨l, 4, t, p, g, r, ⟨c.page, 1, c.before, c.after⟩, s⟩) 28 HUE.out ?_ ?_ ?_ ?_ ?_ ?_); (exact rfl); (exact rfl); (exact (HS7.out).get 2 rfl); (exact rfl); (exact info_en); simp only [Act.put, List.setIfInBounds_toArray, List.set_cons_zero, List.set_cons_succ]))
      refine (HV3.out _).mono ?_
      rintro e w9 ⟨rfl, hb⟩
      have HS8 : Hid (Hp w [.cd C, .ob B1 28 (enCells ⟨l, 4, t, p, g, r, c, s⟩), .ob B2 28 (enCells ⟨l, 4, t, p, g, r, ⟨c.page, 1, c.before, c.after⟩, s⟩)] w9) := (HS7.out).calls hb
      clear hb
      clear HS7
      clear HV3
      go_wp2_with fail
      go_ret
      exact ⟨rfl, (HS8.out).old⟩
    ·
      have hu : (chgB 5) = false := by decide
      rw [hu] at HV2 HV3
      clear hu
      have c1 : w5.cell? ⟨B1, 1, none⟩ = some (.int .i64 5) := (HS4.out).at 1 rfl 1 rfl
      go_upto_region 21 with (first | ((with_reducible refine wpList_store_fld 3 (.tmp 71) _ B2 7 (.int .i64 1) ([.int .i64 1]) (enCells ⟨l, 5, t, p, g, r, c, s⟩) (enCells ⟨l, 5, t, p, g, r, ⟨c.page, 1, c.before, c.after⟩, s⟩) 28 ?_ ?_ ?_ ?_ ?_ ?_ ?_ ?_ ?_); (exact rfl); (exact rfl); (exact rfl); (exact (HS4.out).get 2 rfl); (exact (Nat.le_of_ble_eq_true rfl)); (exact info_int1); (exact (one_int _ _)); (exact rfl); skip))
      have HS5 : Hid (Hp w [.cd C, .ob B1 28 (enCells ⟨l, 5, t, p, g, r, c, s⟩), .ob B2 28 (enCells ⟨l, 5, t, p, g, r, ⟨c.page, 1, c.before, c.after⟩, s⟩)] (w5.setRow B2 (enCells ⟨l, 5, t, p, g, r, ⟨c.page, 1, c.before, c.after⟩, s⟩).toArray)) := (HS4.out).row 2 rfl (enCells ⟨l, 5, t, p, g, r, ⟨c.page, 1, c.before, c.after⟩, s⟩)
      clear HS4
      generalize (w5.setRow B2 (enCells ⟨l, 5, t, p, g, r, ⟨c.page, 1, c.before, c.after⟩, s⟩).toArray) = w6 at *
      clear c1
      go_wp2_with (first | ((with_reducible refine wpList_load_ob 28 (.tmp 5) B1 (enCells ⟨l, 5, t, p, g, r, c, s⟩) 28 HUE.out ?_ ?_ ?_ ?_ ?_); (exact rfl); (exact (HS5.out).get 1 rfl); (exact rfl); (exact info_en); simp only [Act.put, List.setIfInBounds_toArray, List.set_cons_zero, List.set_cons_succ]))
      refine (HV.out _).mono ?_
      rintro e w7 ⟨rfl, hb⟩
      have HS6 : Hid (Hp w [.cd C, .ob B1 28 (enCells ⟨l, 5, t, p, g, r, c, s⟩), .ob B2 28 (enCells ⟨l, 5, t, p, g, r, ⟨c.page, 1, c.before, c.after⟩, s⟩)] w7) := (HS5.out).calls hb
      clear hb
      clear HS5
      clear HV
      go_wp2_with (first | ((with_reducible refine wpList_load_ob_w 28 (.tmp 6) B2 (enCells ⟨l, 5, t, p, g, r, ⟨c.page, 1, c.before, c.after⟩, s⟩) 28 HUE.out ?_ ?_ ?_ ?_ ?_ ?_); (exact rfl); (exact rfl); (exact (HS6.out).get 2 rfl); (exact rfl); (exact info_en); simp only [Act.put, List.setIfInBounds_toArray, List.set_cons_zero, List.set_cons_succ]))
      refine (HV2.out _).mono ?_
      rintro e w8 ⟨rfl, hb⟩
      have HS7 : Hid (Hp w [.cd C, .ob B1 28 (enCells ⟨l, 5, t, p, g, r, c, s⟩), .ob B2 28 (enCells ⟨l, 5, t, p, g, r, ⟨c.page, 1, c.before, c.after⟩, s⟩)] w8) := (HS6.out).calls hb
      clear hb
      clear HS6
      clear HV2
      go_wp2_with (first | ((with_reducible refine wpList_load_ob_w 28 (.tmp 6) B2 (enCells ⟨l, 5, t, p, g, r, ⟨c.page, 1, c.before, c.after⟩, s⟩) 28 HUE.out ?_ ?_ ?_ ?_ ?_ ?_); (exact rfl); (exact rfl); (exact (HS7.out).get 2 rfl); (exact rfl); (exact info_en); simp only [Act.put, List.setIfInBounds_toArray, List.set_cons_zero, List.set_cons_succ]))
      refine (HV3.out _).mono ?_
      rintro e w9 ⟨rfl, hb⟩
      have HS8 : Hid (Hp w [.cd C, .ob B1 28 (enCells ⟨l, 5, t, p, g, r, c, s⟩), .ob B2 28 (enCells ⟨l, 5, t, p, g, r, ⟨c.page, 1, c.before, c.after⟩, s⟩)] w9) := (HS7.out).calls hb
      clear hb
      clear HS7
      clear HV3
      go_wp2_with fail
      go_ret
      exact ⟨rfl, (HS8.out).old⟩
    ·
      have hu : (chgB 6) = false := by decide
      rw [hu] at HV2 HV3
      clear hu
      have c1 : w5.cell? ⟨B1, 1, none⟩ = some (.int .i64 6) := (HS4.out).at 1 rfl 1 rfl
      go_upto_region 21 with (first | ((with_reducible refine wpList_store_fld 3 (.tmp 71) _ B2 7 (.int .i64 1) ([.int .i64 1]) (enCells ⟨l, 6, t, p, g, r, c, s⟩) (enCells ⟨l, 6, t, p, g, r, ⟨c.page, 1, c.before, c.after⟩, s⟩) 28 ?_ ?_ ?_ ?_ ?_ ?_ ?_ ?_ ?_); (exact rfl); (exact rfl); (exact rfl); (exact (HS4.out).get 2 rfl); (exact (Nat.le_of_ble_eq_true rfl)); (exact info_int1); (exact (one_int _ _)); (exact rfl); skip))
      have HS5 : Hid (Hp w [.cd C, .ob B1 28 (enCells ⟨l, 6, t, p, g, r, c, s⟩), .ob B2 28 (enCells ⟨l, 6, t, p, g, r, ⟨c.page, 1, c.before, c.after⟩, s⟩)] (w5.setRow B2 (enCells ⟨l, 6, t, p, g, r, ⟨c.page, 1, c.before, c.after⟩, s⟩).toArray)) := (HS4.out).row 2 rfl (enCells ⟨l, 6, t, p, g, r, ⟨c.page, 1, c.before, c.after⟩, s⟩)
      clear HS4
      generalize (w5.setRow B2 (enCells ⟨l, 6, t, p, g, r, ⟨c.page, 1, c.before, c.after⟩, s⟩).toArray) = w6 at *
      clear c1
      go_wp2_with (first | ((with_reducible refine wpList_load_ob 28 (.tmp 5) B1 (enCells ⟨l, 6, t, p, g, r, c, s⟩) 28 HUE.out ?_ ?_ ?_ ?_ ?_); (exact rfl); (exact (HS5.out).get 1 rfl); (exact rfl); (exact info_en); simp only [Act.put, List.setIfInBounds_toArray, List.set_cons_zero, List.set_cons_succ]))
      refine (HV.out _).mono ?_
      rintro e w7 ⟨rfl, hb⟩
      have HS6 : Hid (Hp w [.cd C, .ob B1 28 (enCells ⟨l, 6, t, p, g, r, c, s⟩), .ob B2 28 (enCells ⟨l, 6, t, p, g, r, ⟨c.page, 1, c.before, c.after⟩, s⟩)] w7) := (HS5.out).calls hb
      clear hb
      clear HS5
      clear HV
      go_wp2_with (first | ((with_reducible refine wpList_load_ob_w 28 (.tmp 6) B2 (enCells ⟨l, 6, t, p, g, r, ⟨c.page, 1, c.before, c.after⟩, s⟩) 28 HUE.out ?_ ?_ ?_ ?_ ?_ ?_); (exact rfl); (exact rfl); (exact (HS6.out).get 2 rfl); (exact rfl); (exact info_en); simp only [Act.put, List.setIfInBounds_toArray, List.set_cons_zero, List.set_cons_succ]))
      refine (HV2.out _).mono ?_
      rintro e w8 ⟨rfl, hb⟩
      have HS7 : Hid (Hp w [.cd C, .ob B1 28 (enCells ⟨l, 6, t, p, g, r, c, s⟩), .ob B2 28 (enCells ⟨l, 6, t, p, g, r, ⟨c.page, 1, c.before, c.after⟩, s⟩)] w8) := (HS6.out).calls hb
      clear hb
      clear HS6
      clear HV2
      go_wp2_with (first | ((with_reducible refine wpList_load_ob_w 28 (.tmp 6) B2 (enCells ⟨l, 6, t, p, g, r, ⟨c.page, 1, c.before, c.after⟩, s⟩) 28 HUE.out ?_ ?_ ?_ ?_ ?_ ?_); (exact rfl); (exact rfl); (exact (HS7.out).get 2 rfl); (exact rfl); (exact info_en); simp only [Act.put, List.setIfInBounds_toArray, List.set_cons_zero, List.set_cons_succ]))
      refine (HV3.out _).mono ?_
      rintro e w9 ⟨rfl, hb⟩
      have HS8 : Hid (Hp w [.cd C, .ob B1 28 (enCells ⟨l, 6, t, p, g, r, c, s⟩), .ob B2 28 (enCells ⟨l, 6, t, p, g, r, ⟨c.page, 1, c.before, c.after⟩, s⟩)] w9) := (HS7.out).calls hb
      clear hb
      clear HS7
      clear HV3
      go_wp2_with fail
      go_ret
      exact ⟨rfl, (HS8.out).old⟩
    ·
      have hu : (chgB 7) = false := by decide
      rw [hu] at HV2 HV3
      clear hu
      have c1 : w5.cell? ⟨B1, 1, none⟩ = some (.int .i64 7) := (HS4.out).at 1 rfl 1 rfl
      go_upto_region 21 with (first | ((with_reducible refine wpList_store_fld 3 (.tmp 71) _ B2 7 (.int .i64 1) ([.int .i64 1]) (enCells ⟨l, 7, t, p, g, r, c, s⟩) (enCells ⟨l, 7, t, p, g, r, ⟨c.page, 1, c.before, c.after⟩, s⟩) 28 ?_ ?_ ?_ ?_ ?_ ?_ ?_ ?_ ?_); (exact rfl); (exact rfl); (exact rfl); (exact (HS4.out).get 2 rfl); (exact (Nat.le_of_ble_eq_true rfl)); (exact info_int1); (exact (one_int _ _)); (exact rfl); skip))
      have HS5 : Hid (Hp w [.cd C, .ob B1 28 (enCells ⟨l, 7, t, p, g, r, c, s⟩), .ob B2 28 (enCells ⟨l, 7, t, p, g, r, ⟨c.page, 1, c.before, c.after⟩, s⟩)] (w5.setRow B2 (enCells ⟨l, 7, t, p, g, r, ⟨c.page, 1, c.before, c.after⟩, s⟩).toArray)) := (HS4.out).row 2 rfl (enCells ⟨l, 7, t, p, g, r, ⟨c.page, 1, c.before, c.after⟩, s⟩)
      clear HS4
      generalize (w5.setRow B2 (enCells ⟨l, 7, t, p, g, r, ⟨c.page, 1, c.before, c.after⟩, s⟩).toArray) = w6 at *
      clear c1
      go_wp2_with (first | ((with_reducible refine wpList_load_ob 28 (.tmp 5) B1 (enCells ⟨l, 7, t, p, g, r, c, s⟩) 28 HUE.out ?_ ?_ ?_ ?_ ?_); (exact rfl); (exact (HS5.out).get 1 rfl); (exact rfl); (exact info_en); simp only [Act.put, List.setIfInBounds_toArray, List.set_cons_zero, List.set_cons_succ]))
      refine (HV.out _).mono ?_
      rintro e w7 ⟨rfl, hb⟩
      have HS6 : Hid (Hp w [.cd C, .ob B1 28 (enCells ⟨l, 7, t, p, g, r, c, s⟩), .ob B2 28 (enCells ⟨l, 7, t, p, g, r, ⟨c.page, 1, c.before, c.after⟩, s⟩)] w7) := (HS5.out).calls hb
      clear hb
      clear HS5
      clear HV
      go_wp2_with (first | ((with_reducible refine wpList_load_ob_w 28 (.tmp 6) B2 (enCells ⟨l, 7, t, p, g, r, ⟨c.page, 1, c.before, c.after⟩, s⟩) 28 HUE.out ?_ ?_ ?_ ?_ ?_ ?_); (exact rfl); (exact rfl); (exact (HS6.out).get 2 rfl); (exact rfl); (exact info_en); simp only [Act.put, List.setIfInBounds_toArray, List.set_cons_zero, List.set_cons_succ]))
      refine (HV2.out _).mono ?_
      rintro e w8 ⟨rfl, hb⟩
      have HS7 : Hid (Hp w [.cd C, .ob B1 28 (enCells ⟨l, 7, t, p, g, r, c, s⟩), .ob B2 28 (enCells ⟨l, 7, t, p, g, r, ⟨c.page, 1, c.before, c.after⟩, s⟩)] w8) := (HS6.out).calls hb
      clear hb
      clear HS6
      clear HV2
      go_wp2_with (first | ((with_reducible refine wpList_load_ob_w 28 (.tmp 6) B2 (enCells ⟨l, 7, t, p, g, r, ⟨c.page, 1, c.before, c.after⟩, s⟩) 28 HUE.out ?_ ?_ ?_ ?_ ?_ ?_); (exact rfl); (exact rfl); (exact (HS7.out).get 2 rfl); (exact rfl); (exact info_en); simp only [Act.put, List.setIfInBounds_toArray, List.set_cons_zero, List.set_cons_succ]))
      refine (HV3.out _).mono ?_
      rintro e w9 ⟨rfl, hb⟩
      have HS8 : Hid (Hp w [.cd C, .ob B1 28 (enCells ⟨l, 7, t, p, g, r, c, s⟩), .ob B2 28 (enCells ⟨l, 7, t, p, g, r, ⟨c.page, 1, c.before, c.after⟩, s⟩)] w9) := (HS7.out).calls hb
      clear hb
      clear HS7
      clear HV3
      go_wp2_with fail
      go_ret
      exact ⟨rfl, (HS8.out).old⟩
    ·
      have hu : (chgB 8) = false := by decide
      rw [hu] at HV2 HV3
      clear hu
      have c1 : w5.cell? ⟨B1, 1, none⟩ = some (.int .i64 8) := (HS4.out).at 1 rfl 1 rfl
      go_upto_region 21 with (first | ((with_reducible refine wpList_store_fld 3 (.tmp 71) _ B2 7 (.int .i64 1) ([.int .i64 1]) (enCells ⟨l, 8, t, p, g, r, c, s⟩) (enCells ⟨l, 8, t, p, g, r, ⟨c.page, 1, c.before, c.after⟩, s⟩) 28 ?_ ?_ ?_ ?_ ?_ ?_ ?_ ?_ ?_); (exact rfl); (exact rfl); (exact rfl); (exact (HS4.out).get 2 rfl); (exact (Nat.le_of_ble_eq_true rfl)); (exact info_int1); (exact (one_int _ _)); (exact rfl); skip))
      have HS5 : Hid (Hp w [.cd C, .ob B1 28 (enCells ⟨l, 8, t, p, g, r, c, s⟩), .ob B2 28 (enCells ⟨l, 8, t, p, g, r, ⟨c.page, 1, c.before, c.after⟩, s⟩)] (w5.setRow B2 (enCells ⟨l, 8, t, p, g, r, ⟨c.page, 1, c.before, c.after⟩, s⟩).toArray)) := (HS4.out).row 2 rfl (enCells ⟨l, 8, t, p, g, r, ⟨c.page, 1, c.before, c.after⟩, s⟩)
      clear HS4
      generalize (w5.setRow B2 (enCells ⟨l, 8, t, p, g, r, ⟨c.page, 1, c.before, c.after⟩, s⟩).toArray) = w6 at *
      clear c1
      go_wp2_with (first | ((with_reducible refine wpList_load_ob 28 (.tmp 5) B1 (enCells ⟨l, 8, t, p, g, r, c, s⟩) 28 HUE.out ?_ ?_ ?_ ?_ ?_); (exact rfl); (exact (HS5.out).get 1 rfl); (exact rfl); (exact info_en); simp only [Act.put, List.setIfInBounds_toArray, List.set_cons_zero, List.set_cons_succ]))
      refine (HV.out _).mono ?_
      rintro e w7 ⟨rfl, hb⟩
      have HS6 : Hid (Hp w [.cd C, .ob B1 28 (enCells ⟨l, 8, t, p, g, r, c, s⟩), .ob B2 28 (enCells ⟨l, 8, t, p, g, r, ⟨c.page, 1, c.before, c.after⟩, s⟩)] w7) := (HS5.out).calls hb
      clear hb
      clear HS5
      clear HV
      go_wp2_with (first | ((with_reducible refine wpList_load_ob_w 28 (.tmp 6) B2 (enCells ⟨l, 8, t, p, g, r, ⟨c.page, 1, c.before, c.after⟩, s⟩) 28 HUE.out ?_ ?_ ?_ ?_ ?_ ?_); (exact rfl); (exact rfl); (exact (HS6.out).get 2 rfl); (exact rfl); (exact info_en); simp only [Act.put, List.setIfInBounds_toArray, List.set_cons_zero, List.set_cons_succ]))
      refine (HV2.out _).mono ?_
      rintro e w8 ⟨rfl, hb⟩
      have HS7 : Hid (Hp w [.cd C, .ob B1 28 (enCells ⟨l, 8, t, p, g, r, c, s⟩), .ob B2 28 (enCells ⟨l, 8, t, p, g, r, ⟨c.page, 1, c.before, c.after⟩, s⟩)] w8) := (HS6.out).calls hb
      clear hb
      clear HS6
      clear HV2
      go_wp2_with (first | ((with_reducible refine wpList_load_ob_w 28 (.tmp 6) B2 (enCells ⟨l, 8, t, p, g, r, ⟨c.page, 1, c.before, c.after⟩, s⟩) 28 HUE.out ?_ ?_ ?_ ?_ ?_ ?_); (exact rfl); (exact rfl); (exact (HS7.out).get 2 rfl); (exact rfl); (exact info_en); simp only [Act.put, List.setIfInBounds_toArray, List.set_cons_zero, List.set_cons_succ]))
      refine (HV3.out _).mono ?_
      rintro e w9 ⟨rfl, hb⟩
      have HS8 : Hid (Hp w [.cd C, .ob B1 28 (enCells ⟨l, 8, t, p, g, r, c, s⟩), .ob B2 28 (enCells ⟨l, 8, t, p, g, r, ⟨c.page, 1, c.before, c.after⟩, s⟩)] w9) := (HS7.out).calls hb
      clear hb
      clear HS7
      clear HV3
      go_wp2_with fail
      go_ret
      exact ⟨rfl, (HS8.out).old⟩
  ·
    have hme : av % 5 = 4 := by have := HAv.out; rw [Int.tmod_eq_emod_of_nonneg this.1] at hm; exact hm
    have hgj : GoodEn ⟨l, k, t, l, g, r, c, s⟩ := ⟨HG.out.lsn, HG.out.kind, HG.out.tx, HG.out.lsn, HG.out.ppg, HG.out.ref, HG.out.ch, HG.out.blob⟩
    have HV2 := Lib.hid (fun W => valid_en _ W hgj)
    have HV3 := Lib.hid (fun W => rvalid_en _ W hgj)
    rw [HF.out.2.2.2.2] at HV2 HV3
    clear hgj
    rcases hk with rfl | rfl | rfl | rfl | rfl | rfl | rfl | rfl
    ·
      have hu : (false) = false := by decide
      rw [hu] at HV2 HV3
      clear hu
      have c1 : w5.cell? ⟨B1, 1, none⟩ = some (.int .i64 1) := (HS4.out).at 1 rfl 1 rfl
      have e0 : w5.cell? ⟨B1, 0, none⟩ = some (.int .i64 l) := (HS4.out).at 1 rfl 0 rfl
      go_upto_region 21 with (first | ((with_reducible refine wpList_store_fld 3 (.tmp 76) (.tmp 75) B2 3 (.int .i64 l) ([.int .i64 l]) (enCells ⟨l, 1, t, p, g, r, c, s⟩) (enCells ⟨l, 1, t, l, g, r, c, s⟩) 28 ?_ ?_ ?_ ?_ ?_ ?_ ?_ ?_ ?_); (exact rfl); (exact rfl); (exact rfl); (exact (HS4.out).get 2 rfl); (exact (Nat.le_of_ble_eq_true rfl)); (exact info_int1); (exact (one_int _ _)); (exact rfl); skip))
      have HS5 : Hid (Hp w [.cd C, .ob B1 28 (enCells ⟨l, 1, t, p, g, r, c, s⟩), .ob B2 28 (enCells ⟨l, 1, t, l, g, r, c, s⟩)] (w5.setRow B2 (enCells ⟨l, 1, t, l, g, r, c, s⟩).toArray)) := (HS4.out).row 2 rfl (enCells ⟨l, 1, t, l, g, r, c, s⟩)
      clear HS4
      generalize (w5.setRow B2 (enCells ⟨l, 1, t, l, g, r, c, s⟩).toArray) = w6 at *
      clear c1 e0
      go_wp2_with (first | ((with_reducible refine wpList_load_ob 28 (.tmp 5) B1 (enCells ⟨l, 1, t, p, g, r, c, s⟩) 28 HUE.out ?_ ?_ ?_ ?_ ?_); (exact rfl); (exact (HS5.out).get 1 rfl); (exact rfl); (exact info_en); simp only [Act.put, List.setIfInBounds_toArray, List.set_cons_zero, List.set_cons_succ]))
      refine (HV.out _).mono ?_
      rintro e w7 ⟨rfl, hb⟩
      have HS6 : Hid (Hp w [.cd C, .ob B1 28 (enCells ⟨l, 1, t, p, g, r, c, s⟩), .ob B2 28 (enCells ⟨l, 1, t, l, g, r, c, s⟩)] w7) := (HS5.out).calls hb
      clear hb
      clear HS5
      clear HV
      go_wp2_with (first | ((with_reducible refine wpList_load_ob_w 28 (.tmp 6) B2 (enCells ⟨l, 1, t, l, g, r, c, s⟩) 28 HUE.out ?_ ?_ ?_ ?_ ?_ ?_); (exact rfl); (exact rfl); (exact (HS6.out).get 2 rfl); (exact rfl); (exact info_en); simp only [Act.put, List.setIfInBounds_toArray, List.set_cons_zero, List.set_cons_succ]))
      refine (HV2.out _).mono ?_
      rintro e w8 ⟨rfl, hb⟩
      have HS7 : Hid (Hp w [.cd C, .ob B1 28 (enCells ⟨l, 1, t, p, g, r, c, s⟩), .ob B2 28 (enCells ⟨l, 1, t, l, g, r, c, s⟩)] w8) := (HS6.out).calls hb
      clear hb
      clear HS6
      clear HV2
      go_wp2_with (first | ((with_reducible refine wpList_load_ob_w 28 (.tmp 6) B2 (enCells ⟨l, 1, t, l, g, r, c, s⟩) 28 HUE.out ?_ ?_ ?_ ?_ ?_ ?_); (exact rfl); (exact rfl); (exact (HS7.out).get 2 rfl); (exact rfl); (exact info_en); simp only [Act.put, List.setIfInBounds_toArray, List.set_cons_zero, List.set_cons_succ]))
      refine (HV3.out _).mono ?_
      rintro e w9 ⟨rfl, hb⟩
      have HS8 : Hid (Hp w [.cd C, .ob B1 28 (enCells ⟨l, 1, t, p, g, r, c, s⟩), .ob B2 28 (enCells ⟨l, 1, t, l, g, r, c, s⟩)] w9) := (HS7.out).calls hb
      clear hb
      clear HS7
      clear HV3
      go_wp2_with fail
      go_ret
      exact ⟨rfl, (HS8.out).old⟩
    ·
      have hu : (false) = false := by decide
      rw [hu] at HV2 HV3
      clear hu
      have c1 : w5.cell? ⟨B1, 1, none⟩ = some (.int .i64 2) := (HS4.out).at 1 rfl 1 rfl
      have e0 : w5.cell? ⟨B1, 0, none⟩ = some (.int .i64 l) := (HS4.out).at 1 rfl 0 rfl
      go_upto_region 21 with (first | ((with_reducible refine wpList_store_fld 3 (.tmp 76) (.tmp 75) B2 3 (.int .i64 l) ([.int .i64 l]) (enCells ⟨l, 2, t, p, g, r, c, s⟩) (enCells ⟨l, 2, t, l, g, r, c, s⟩) 28 ?_ ?_ ?_ ?_ ?_ ?_ ?_ ?_ ?_); (exact rfl); (exact rfl); (exact rfl); (exact (HS4.out).get 2 rfl); (exact (Nat.le_of_ble_eq_true rfl)); (exact info_int1); (exact (one_int _ _)); (exact rfl); skip))
      have HS5 : Hid (Hp w [.cd C, .ob B1 28 (enCells ⟨l, 2, t, p, g, r, c, s⟩), .ob B2 28 (enCells ⟨l, 2, t, l, g, r, c, s⟩)] (w5.setRow B2 (enCells ⟨l, 2, t, l, g, r, c, s⟩).toArray)) := (HS4.out).row 2 rfl (enCells ⟨l, 2, t, l, g, r, c, s⟩)
      clear HS4
      generalize (w5.setRow B2 (enCells ⟨l, 2, t, l, g, r, c, s⟩).toArray) = w6 at *
      clear c1 e0
      go_wp2_with (first | ((with_reducible refine wpList_load_ob 28 (.tmp 5) B1 (enCells ⟨l, 2, t, p, g, r, c, s⟩) 28 HUE.out ?_ ?_ ?_ ?_ ?_); (exact rfl); (exact (HS5.out).get 1 rfl); (exact rfl); (exact info_en); simp only [Act.put, List.setIfInBounds_toArray, List.set_cons_zero, List.set_cons_succ]))
      refine (HV.out _).mono ?_
      rintro e w7 ⟨rfl, hb⟩
      have HS6 : Hid (Hp w [.cd C, .ob B1 28 (enCells ⟨l, 2, t, p, g, r, c, s⟩), .ob B2 28 (enCells ⟨l, 2, t, l, g, r, c, s⟩)] w7) := (HS5.out).calls hb
      clear hb
      clear HS5
      clear HV
      go_wp2_with (first | ((with_reducible refine wpList_load_ob_w 28 (.tmp 6) B2 (enCells ⟨l, 2, t, l, g, r, c, s⟩) 28 HUE.out ?_ ?_ ?_ ?_ ?_ ?_); (exact rfl); (exact rfl); (exact (HS6.out).get 2 rfl); (exact rfl); (exact info_en); simp only [Act.put, List.setIfInBounds_toArray, List.set_cons_zero, List.set_cons_succ]))
      refine (HV2.out _).mono ?_
      rintro e w8 ⟨rfl, hb⟩
      have HS7 : Hid (Hp w [.cd C, .ob B1 28 (enCells ⟨l, 2, t, p, g, r, c, s⟩), .ob B2 28 (enCells ⟨l, 2, t, l, g, r, c, s⟩)] w8) := (HS6.out).calls hb
      clear hb
      clear HS6
      clear HV2
      go_wp2_with (first | ((with_reducible refine wpList_load_ob_w 28 (.tmp 6) B2 (enCells ⟨l, 2, t, l, g, r, c, s⟩) 28 HUE.out ?_ ?_ ?_ ?_ ?_ ?_); (exact rfl); (exact rfl); (exact (HS7.out).get 2 rfl); (exact rfl); (exact info_en); simp only [Act.put, List.setIfInBounds_toArray, List.set_cons_zero, List.set_cons_succ]))
      refine (HV3.out _).mono ?_
      rintro e w9 ⟨rfl, hb⟩
      have HS8 : Hid (Hp w [.cd C, .ob B1 28 (enCells ⟨l, 2, t, p, g, r, c, s⟩), .ob B2 28 (enCells ⟨l, 2, t, l, g, r, c, s⟩)] w9) := (HS7.out).calls hb
      clear hb
      clear HS7
      clear HV3
      go_wp2_with fail
      go_ret
      exact ⟨rfl, (HS8.out).old⟩
    ·
      have hu : (false) = false := by decide
      rw [hu] at HV2 HV3
      clear hu
      have c1 : w5.cell? ⟨B1, 1, none⟩ = some (.int .i64 3) := (HS4.out).at 1 rfl 1 rfl
      have e0 : w5.cell? ⟨B1, 0, none⟩ = some (.int .i64 l) := (HS4.out).at 1 rfl 0 rfl
      go_upto_region 21 with (first | ((with_reducible refine wpList_store_fld 3 (.tmp 76) (.tmp 75) B2 3 (.int .i64 l) ([.int .i64 l]) (enCells ⟨l, 3, t, p, g, r, c, s⟩) (enCells ⟨l, 3, t, l, g, r, c, s⟩) 28 ?_ ?_ ?_ ?_ ?_ ?_ ?_ ?_ ?_); (exact rfl); (exact rfl); (exact rfl); (exact (HS4.out).get 2 rfl); (exact (Nat.le_of_ble_eq_true rfl)); (exact info_int1); (exact (one_int _ _)); (exact rfl); skip))
      have HS5 : Hid (Hp w [.cd C, .ob B1 28 (enCells ⟨l, 3, t, p, g, r, c, s⟩), .ob B2 28 (enCells ⟨l, 3, t, l, g, r, c, s⟩)] (w5.setRow B2 (enCells ⟨l, 3, t, l, g, r, c, s⟩).toArray)) := (HS4.out).row 2 rfl (enCells ⟨l, 3, t, l, g, r, c, s⟩)
      clear HS4
      generalize (w5.setRow B2 (enCells ⟨l, 3, t, l, g, r, c, s⟩).toArray) = w6 at *
      clear c1 e0
      go_wp2_with (first | ((with_reducible refine wpList_load_ob 28 (.tmp 5) B1 (enCells ⟨l, 3, t, p, g, r, c, s⟩) 28 HUE.out ?_ ?_ ?_ ?_ ?_); (exact rfl); (exact (HS5.out).get 1 rfl); (exact rfl); (exact info_en); simp only [Act.put, List.setIfInBounds_toArray, List.set_cons_zero, List.set_cons_succ]))
      refine (HV.out _).mono ?_
      rintro e w7 ⟨rfl, hb⟩
      have HS6 : Hid (Hp w [.cd C, .ob B1 28 (enCells ⟨l, 3, t, p, g, r, c, s⟩), .ob B2 28 (enCells ⟨l, 3, t, l, g, r, c, s⟩)] w7) := (HS5.out).calls hb
      clear hb
      clear HS5
      clear HV
      go_wp2_with (first | ((with_reducible refine wpList_load_ob_w 28 (.tmp 6) B2 (enCells ⟨l, 3, t, l, g, r, c, s⟩) 28 HUE.out ?_ ?_ ?_ ?_ ?_ ?_); (exact rfl); (exact rfl); (exact (HS6.out).get 2 rfl); (exact rfl); (exact info_en); simp only [Act.put, List.setIfInBounds_toArray, List.set_cons_zero, List.set_cons_succ]))
      refine (HV2.out _).mono ?_
      rintro e w8 ⟨rfl, hb⟩
      have HS7 : Hid (Hp w [.cd C, .ob B1 28 (enCells ⟨l, 3, t, p, g, r, c, s⟩), .ob B2 28 (enCells ⟨l, 3, t, l, g, r, c, s⟩)] w8) := (HS6.out).calls hb
      clear hb
      clear HS6
      clear HV2
      go_wp2_with (first | ((with_reducible refine wpList_load_ob_w 28 (.tmp 6) B2 (enCells ⟨l, 3, t, l, g, r, c, s⟩) 28 HUE.out ?_ ?_ ?_ ?_ ?_ ?_); (exact rfl); (exact rfl); (exact (HS7.out).get 2 rfl); (exact rfl); (exact info_en); simp only [Act.put, List.setIfInBounds_toArray, List.set_cons_zero, List.set_cons_succ]))
      refine (HV3.out _).mono ?_
      rintro e w9 ⟨rfl, hb⟩
      have HS8 : Hid (Hp w [.cd C, .ob B1 28 (enCells ⟨l, 3, t, p, g, r, c, s⟩), .ob B2 28 (enCells ⟨l, 3, t, l, g, r, c, s⟩)] w9) := (HS7.out).calls hb
      clear hb
      clear HS7
      clear HV3
      go_wp2_with fail
      go_ret
      exact ⟨rfl, (HS8.out).old⟩
    ·
      have hu : (false) = false := by decide
      rw [hu] at HV2 HV3
      clear hu
      have c1 : w5.cell? ⟨B1, 1, none⟩ = some (.int .i64 4) := (HS4.out).at 1 rfl 1 rfl
      have e0 : w5.cell? ⟨B1, 0, none⟩ = some (.int .i64 l) := (HS4.out).at 1 rfl 0 rfl
      go_upto_region 21 with (first | ((with_reducible refine wpList_store_fld 3 (.tmp 76) (.tmp 75) B2 3 (.int .i64 l) ([.int .i64 l]) (enCells ⟨l, 4, t, p, g, r, c, s⟩) (enCells ⟨l, 4, t, l, g, r, c, s⟩) 28 ?_ ?_ ?_ ?_ ?_ ?_ ?_ ?_ ?_); (exact rfl); (exact rfl); (exact rfl); (exact (HS4.out).get 2 rfl); (exact (Nat.le_of_ble_eq_true rfl)); (exact info_int1); (exact (one_int _ _)); (exact rfl); skip))
      have HS5 : Hid (Hp w [.cd C, .ob B1 28 (enCells ⟨l, 4, t, p, g, r, c, s⟩), .ob B2 28 (enCells ⟨l, 4, t, l, g, r, c, s⟩)] (w5.setRow B2 (enCells ⟨l, 4, t, l, g, r, c, s⟩).toArray)) := (HS4.out).row 2 rfl (enCells ⟨l, 4, t, l, g, r, c, s⟩)
      clear HS4
      generalize (w5.setRow B2 (enCells ⟨l, 4, t, l, g, r, c, s⟩).toArray) = w6 at *
      clear c1 e0
      go_wp2_with (first | ((with_reducible refine wpList_load_ob 28 (.tmp 5) B1 (enCells ⟨l, 4, t, p, g, r, c, s⟩) 28 HUE.out ?_ ?_ ?_ ?_ ?_); (exact rfl); (exact (HS5.out).get 1 rfl); (exact rfl); (exact info_en); simp only [Act.put, List.setIfInBounds_toArray, List.set_cons_zero, List.set_cons_succ]))
      refine (HV.out _).mono ?_
      rintro e w7 ⟨rfl, hb⟩
      have HS6 : Hid (Hp w [.cd C, .ob B1 28 (enCells ⟨l, 4, t, p, g, r, c, s⟩), .ob B2 28 (enCells ⟨l, 4, t, l, g, r, c, s⟩)] w7) := (HS5.out).calls hb
      clear hb
      clear HS5
      clear HV
      go_wp2_with (first | ((with_reducible refine wpList_load_ob_w 28 (.tmp 6) B2 (enCells ⟨l, 4, t, l, g, r, c, s⟩) 28 HUE.out ?_ ?_ ?_ ?_ ?_ ?_); (exact rfl); (exact rfl); (exact (HS6.out).get 2 rfl); (exact rfl); (exact info_en); simp only [Act.put, List.setIfInBounds_toArray, List.set_cons_zero, List.set_cons_succ]))
      refine (HV2.out _).mono ?_
      rintro e w8 ⟨rfl, hb⟩
      have HS7 : Hid (Hp w [.cd C, .ob B1 28 (enCells ⟨l, 4, t, p, g, r, c, s⟩), .ob B2 28 (enCells ⟨l, 4, t, l, g, r, c, s⟩)] w8) := (HS6.out).calls hb
      clear hb
      clear HS6
      clear HV2
      go_wp2_with (first | ((with_reducible refine wpList_load_ob_w 28 (.tmp 6) B2 (enCells ⟨l, 4, t, l, g, r, c, s⟩) 28 HUE.out ?_ ?_ ?_ ?_ ?_ ?_); (exact rfl); (exact rfl); (exact (HS7.out).get 2 rfl); (exact rfl); (exact info_en); simp only [Act.put, List.setIfInBounds_toArray, List.set_cons_zero, List.set_cons_succ]))
      refine (HV3.out _).mono ?_
      rintro e w9 ⟨rfl, hb⟩
      have HS8 : Hid (Hp w [.cd C, .ob B1 28 (enCells ⟨l, 4, t, p, g, r, c, s⟩), .ob B2 28 (enCells ⟨l, 4, t, l, g, r, c, s⟩)] w9) := (HS7.out).calls hb
      clear hb
      clear HS7
      clear HV3
      go_wp2_with fail
      go_ret
      exact ⟨rfl, (HS8.out).old⟩
    ·
      have hu : (false) = false := by decide
      rw [hu] at HV2 HV3
      clear hu
      have c1 : w5.cell? ⟨B1, 1, none⟩ = some (.int .i64 5) := (HS4.out).at 1 rfl 1 rfl
      have e0 : w5.cell? ⟨B1, 0, none⟩ = some (.int .i64 l) := (HS4.out).at 1 rfl 0 rfl
      go_upto_region 21 with (first | ((with_reducible refine wpList_store_fld 3 (.tmp 76) (.tmp 75) B2 3 (.int .i64 l) ([.int .i64 l]) (enCells ⟨l, 5, t, p, g, r, c, s⟩) (enCells ⟨l, 5, t, l, g, r, c, s⟩) 28 ?_ ?_ ?_ ?_ ?_ ?_ ?_ ?_ ?_); (exact rfl); (exact rfl); (exact rfl); (exact (HS4.out).get 2 rfl); (exact (Nat.le_of_ble_eq_true rfl)); (exact info_int1); (exact (one_int _ _)); (exact rfl); skip))
      have HS5 : Hid (Hp w [.cd C, .ob B1 28 (enCells ⟨l, 5, t, p, g, r, c, s⟩), .ob B2 28 (enCells ⟨l, 5, t, l, g, r, c, s⟩)] (w5.setRow B2 (enCells ⟨l, 5, t, l, g, r, c, s⟩).toArray)) := (HS4.out).row 2 rfl (enCells ⟨l, 5, t, l, g, r, c, s⟩)
      clear HS4
      generalize (w5.setRow B2 (enCells ⟨l, 5, t, l, g, r, c, s⟩).toArray) = w6 at *
      clear c1 e0
      go_wp2_with (first | ((with_reducible refine wpList_load_ob 28 (.tmp 5) B1 (enCells ⟨l, 5, t, p, g, r, c, s⟩) 28 HUE.out ?_ ?_ ?_ ?_ ?_); (exact rfl); (exact (HS5.out).get 1 rfl); (exact rfl); (exact info_en); simp only [Act.put, List.setIfInBounds_toArray, List.set_cons_zero, List.set_cons_succ]))
      refine (HV.out _).mono ?_
      rintro e w7 ⟨rfl, hb⟩
      have HS6 : Hid (Hp w [.cd C, .ob B1 28 (enCells ⟨l, 5, t, p, g, r, c, s⟩), .ob B2 28 (enCells ⟨l, 5, t, l, g, r, c, s⟩)] w7) := (HS5.out).calls hb
      clear hb
      clear HS5
      clear HV
      go_wp2_with (first | ((with_reducible refine wpList_load_ob_w 28 (.tmp 6) B2 (enCells ⟨l, 5, t, l, g, r, c, s⟩) 28 HUE.out ?_ ?_ ?_ ?_ ?_ ?_); (exact rfl); (exact rfl); (exact (HS6.out).get 2 rfl); (exact rfl); (exact info_en); simp only [Act.put, List.setIfInBounds_toArray, List.set_cons_zero, List.set_cons_succ]))
      refine (HV2.out _).mono ?_
      rintro e w8 ⟨rfl, hb⟩
      have HS7 : Hid (Hp w [.cd C, .ob B1 28 (enCells ⟨l, 5, t, p, g, r, c, s⟩), .ob B2 28 (enCells ⟨l, 5, t, l, g, r, c, s⟩)] w8) := (HS6.out).calls hb
      clear hb
      clear HS6
      clear HV2
      go_wp2_with (first | ((with_reducible refine wpList_load_ob_w 28 (.tmp 6) B2 (enCells ⟨l, 5, t, l, g, r, c, s⟩) 28 HUE.out ?_ ?_ ?_ ?_ ?_ ?_); (exact rfl); (exact rfl); (exact (HS7.out).get 2 rfl); (exact rfl); (exact info_en); simp only [Act.put, List.setIfInBounds_toArray, List.set_cons_zero, List.set_cons_succ]))
      refine (HV3.out _).mono ?_
      rintro e w9 ⟨rfl, hb⟩
      have HS8 : Hid (Hp w [.cd C, .ob B1 28 (enCells ⟨l, 5, t, p, g, r, c, s⟩), .ob B2 28 (enCells ⟨l, 5, t, l, g, r, c, s⟩)] w9) := (HS7.out).calls hb
      clear hb
      clear HS7
      clear HV3
      go_wp2_with fail
      go_ret
      exact ⟨rfl, (HS8.out).old⟩
    ·
      have hu : (false) = false := by decide
      rw [hu] at HV2 HV3
      clear hu
      have c1 : w5.cell? ⟨B1, 1, none⟩ = some (.int .i64 6) := (HS4.out).at 1 rfl 1 rfl
      have e0 : w5.cell? ⟨B1, 0, none⟩ = some (.int .i64 l) := (HS4.out).at 1 rfl 0 rfl
      go_upto_region 21 with (first | ((with_reducible refine wpList_store_fld 3 (.tmp 76) (.tmp 75) B2 3 (.int .i64 l) ([.int .i64 l]) (enCells ⟨l, 6, t, p, g, r, c, s⟩) (enCells ⟨l, 6, t, l, g, r, c, s⟩) 28 ?_ ?_ ?_ ?_ ?_ ?_ ?_ ?_ ?_); (exact rfl); (exact rfl); (exact rfl); (exact (HS4.out).get 2 rfl); (exact (Nat.le_of_ble_eq_true rfl)); (exact info_int1); (exact (one_int _ _)); (exact rfl); skip))
      have HS5 : Hid (Hp w [.cd C, .ob B1 28 (enCells ⟨l, 6, t, p, g, r, c, s⟩), .ob B2 28 (enCells ⟨l, 6, t, l, g, r, c, s⟩)] (w5.setRow B2 (enCells ⟨l, 6, t, l, g, r, c, s⟩).toArray)) := (HS4.out).row 2 rfl (enCells ⟨l, 6, t, l, g, r, c, s⟩)
      clear HS4
      generalize (w5.setRow B2 (enCells ⟨l, 6, t, l, g, r, c, s⟩).toArray) = w6 at *
      clear c1 e0
      go_wp2_with (first | ((with_reducible refine wpList_load_ob 28 (.tmp 5) B1 (enCells ⟨l, 6, t, p, g, r, c, s⟩) 28 HUE.out ?_ ?_ ?_ ?_ ?_); (exact rfl); (exact (HS5.out).get 1 rfl); (exact rfl); (exact info_en); simp only [Act.put, List.setIfInBounds_toArray, List.set_cons_zero, List.set_cons_succ]))
      refine (HV.out _).mono ?_
      rintro e w7 ⟨rfl, hb⟩
      have HS6 : Hid (Hp w [.cd C, .ob B1 28 (enCells ⟨l, 6, t, p, g, r, c, s⟩), .ob B2 28 (enCells ⟨l, 6, t, l, g, r, c, s⟩)] w7) := (HS5.out).calls hb
      clear hb
      clear HS5
      clear HV
      go_wp2_with (first | ((with_reducible refine wpList_load_ob_w 28 (.tmp 6) B2 (enCells ⟨l, 6, t, l, g, r, c, s⟩) 28 HUE.out ?_ ?_ ?_ ?_ ?_ ?_); (exact rfl); (exact rfl); (exact (HS6.out).get 2 rfl); (exact rfl); (exact info_en); simp only [Act.put, List.setIfInBounds_toArray, List.set_cons_zero, List.set_cons_succ]))
      refine (HV2.out _).mono ?_
      rintro e w8 ⟨rfl, hb⟩
      have HS7 : Hid (Hp w [.cd C, .ob B1 28 (enCells ⟨l, 6, t, p, g, r, c, s⟩), .ob B2 28 (enCells ⟨l, 6, t, l, g, r, c, s⟩)] w8) := (HS6.out).calls hb
      clear hb
      clear HS6
      clear HV2
      go_wp2_with (first | ((with_reducible refine wpList_load_ob_w 28 (.tmp 6) B2 (enCells ⟨l, 6, t, l, g, r, c, s⟩) 28 HUE.out ?_ ?_ ?_ ?_ ?_ ?_); (exact rfl); (exact rfl); (exact (HS7.out).get 2 rfl); (exact rfl); (exact info_en); simp only [Act.put, List.setIfInBounds_toArray, List.set_cons_zero, List.set_cons_succ]))
      refine (HV3.out _).mono ?_
      rintro e w9 ⟨rfl, hb⟩
      have HS8 : Hid (Hp w [.cd C, .ob B1 28 (enCells ⟨l, 6, t, p, g, r, c, s⟩), .ob B2 28 (enCells ⟨l, 6, t, l, g, r, c, s⟩)] w9) := (HS7.out).calls hb
      clear hb
      clear HS7
      clear HV3
      go_wp2_with fail
      go_ret
      exact ⟨rfl, (HS8.out).old⟩
    ·
      have hu : (false) = false := by decide
      rw [hu] at HV2 HV3
      clear hu
      have c1 : w5.cell? ⟨B1, 1, none⟩ = some (.int .i64 7) := (HS4.out).at 1 rfl 1 rfl
      have e0 : w5.cell? ⟨B1, 0, none⟩ = some (.int .i64 l) := (HS4.out).at 1 rfl 0 rfl
      go_upto_region 21 with (first | ((with_reducible refine wpList_store_fld 3 (.tmp 76) (.tmp 75) B2 3 (.int .i64 l) ([.int .i64 l]) (enCells ⟨l, 7, t, p, g, r, c, s⟩) (enCells ⟨l, 7, t, l, g, r, c, s⟩) 28 ?_ ?_ ?_ ?_ ?_ ?_ ?_ ?_ ?_); (exact rfl); (exact rfl); (exact rfl); (exact (HS4.out).get 2 rfl); (exact (Nat.le_of_ble_eq_true rfl)); (exact info_int1); (exact (one_int _ _)); (exact rfl); skip))
      have HS5 : Hid (Hp w [.cd C, .ob B1 28 (enCells ⟨l, 7, t, p, g, r, c, s⟩), .ob B2 28 (enCells ⟨l, 7, t, l, g, r, c, s⟩)] (w5.setRow B2 (enCells ⟨l, 7, t, l, g, r, c, s⟩).toArray)) := (HS4.out).row 2 rfl (enCells ⟨l, 7, t, l, g, r, c, s⟩)
      clear HS4
      generalize (w5.setRow B2 (enCells ⟨l, 7, t, l, g, r, c, s⟩).toArray) = w6 at *
      clear c1 e0
      go_wp2_with (first | ((with_reducible refine wpList_load_ob 28 (.tmp 5) B1 (enCells ⟨l, 7, t, p, g, r, c, s⟩) 28 HUE.out ?_ ?_ ?_ ?_ ?_); (exact rfl); (exact (HS5.out).get 1 rfl); (exact rfl); (exact info_en); simp only [Act.put, List.setIfInBounds_toArray, List.set_cons_zero, List.set_cons_succ]))
      refine (HV.out _).mono ?_
      rintro e w7 ⟨rfl, hb⟩
      have HS6 : Hid (Hp w [.cd C, .ob B1 28 (enCells ⟨l, 7, t, p, g, r, c, s⟩), .ob B2 28 (enCells ⟨l, 7, t, l, g, r, c, s⟩)] w7) := (HS5.out).calls hb
      clear hb
      clear HS5
      clear HV
      go_wp2_with (first | ((with_reducible refine wpList_load_ob_w 28 (.tmp 6) B2 (enCells ⟨l, 7, t, l, g, r, c, s⟩) 28 HUE.out ?_ ?_ ?_ ?_ ?_ ?_); (exact rfl); (exact rfl); (exact (HS6.out).get 2 rfl); (exact rfl); (exact info_en); simp only [Act.put, List.setIfInBounds_toArray, List.set_cons_zero, List.set_cons_succ]))
      refine (HV2.out _).mono ?_
      rintro e w8 ⟨rfl, hb⟩
      have HS7 : Hid (Hp w [.cd C, .ob B1 28 (enCells ⟨l, 7, t, p, g, r, c, s⟩), .ob B2 28 (enCells ⟨l, 7, t, l, g, r, c, s⟩)] w8) := (HS6.out).calls hb
      clear hb
      clear HS6
      clear HV2
      go_wp2_with (first | ((with_reducible refine wpList_load_ob_w 28 (.tmp 6) B2 (enCells ⟨l, 7, t, l, g, r, c, s⟩) 28 HUE.out ?_ ?_ ?_ ?_ ?_ ?_); (exact rfl); (exact rfl); (exact (HS7.out).get 2 rfl); (exact rfl); (exact info_en); simp only [Act.put, List.setIfInBounds_toArray, List.set_cons_zero, List.set_cons_succ]))
      refine (HV3.out _).mono ?_
      rintro e w9 ⟨rfl, hb⟩
      have HS8 : Hid (Hp w [.cd C, .ob B1 28 (enCells ⟨l, 7, t, p, g, r, c, s⟩), .ob B2 28 (enCells ⟨l, 7, t, l, g, r, c, s⟩)] w9) := (HS7.out).calls hb
      clear hb
      clear HS7
      clear HV3
      go_wp2_with fail
      go_ret
      exact ⟨rfl, (HS8.out).old⟩
    ·
      have hu : (false) = false := by decide
      rw [hu] at HV2 HV3
      clear hu
      have c1 : w5.cell? ⟨B1, 1, none⟩ = some (.int .i64 8) := (HS4.out).at 1 rfl 1 rfl
      have e0 : w5.cell? ⟨B1, 0, none⟩ = some (.int .i64 l) := (HS4.out).at 1 rfl 0 rfl
      go_upto_region 21 with (first | ((with_reducible refine wpList_store_fld 3 (.tmp 76) (.tmp 75) B2 3 (.int .i64 l) ([.int .i64 l]) (enCells ⟨l, 8, t, p, g, r, c, s⟩) (enCells ⟨l, 8, t, l, g, r, c, s⟩) 28 ?_ ?_ ?_ ?_ ?_ ?_ ?_ ?_ ?_); (exact rfl); (exact rfl); (exact rfl); (exact (HS4.out).get 2 rfl); (exact (Nat.le_of_ble_eq_true rfl)); (exact info_int1); (exact (one_int _ _)); (exact rfl); skip))
      have HS5 : Hid (Hp w [.cd C, .ob B1 28 (enCells ⟨l, 8, t, p, g, r, c, s⟩), .ob B2 28 (enCells ⟨l, 8, t, l, g, r, c, s⟩)] (w5.setRow B2 (enCells ⟨l, 8, t, l, g, r, c, s⟩).toArray)) := (HS4.out).row 2 rfl (enCells ⟨l, 8, t, l, g, r, c, s⟩)
      clear HS4
      generalize (w5.setRow B2 (enCells ⟨l, 8, t, l, g, r, c, s⟩).toArray) = w6 at *
      clear c1 e0
      go_wp2_with (first | ((with_reducible refine wpList_load_ob 28 (.tmp 5) B1 (enCells ⟨l, 8, t, p, g, r, c, s⟩) 28 HUE.out ?_ ?_ ?_ ?_ ?_); (exact rfl); (exact (HS5.out).get 1 rfl); (exact rfl); (exact info_en); simp only [Act.put, List.setIfInBounds_toArray, List.set_cons_zero, List.set_cons_succ]))
      refine (HV.out _).mono ?_
      rintro e w7 ⟨rfl, hb⟩
      have HS6 : Hid (Hp w [.cd C, .ob B1 28 (enCells ⟨l, 8, t, p, g, r, c, s⟩), .ob B2 28 (enCells ⟨l, 8, t, l, g, r, c, s⟩)] w7) := (HS5.out).calls hb
      clear hb
      clear HS5
      clear HV
      go_wp2_with (first | ((with_reducible refine wpList_load_ob_w 28 (.tmp 6) B2 (enCells ⟨l, 8, t, l, g, r, c, s⟩) 28 HUE.out ?_ ?_ ?_ ?_ ?_ ?_); (exact rfl); (exact rfl); (exact (HS6.out).get 2 rfl); (exact rfl); (exact info_en); simp only [Act.put, List.setIfInBounds_toArray, List.set_cons_zero, List.set_cons_succ]))
      refine (HV2.out _).mono ?_
      rintro e w8 ⟨rfl, hb⟩
      have HS7 : Hid (Hp w [.cd C, .ob B1 28 (enCells ⟨l, 8, t, p, g, r, c, s⟩), .ob B2 28 (enCells ⟨l, 8, t, l, g, r, c, s⟩)] w8) := (HS6.out).calls hb
      clear hb
      clear HS6
      clear HV2
      go_wp2_with (first | ((with_reducible refine wpList_load_ob_w 28 (.tmp 6) B2 (enCells ⟨l, 8, t, l, g, r, c, s⟩) 28 HUE.out ?_ ?_ ?_ ?_ ?_ ?_); (exact rfl); (exact rfl); (exact (HS7.out).get 2 rfl); (exact rfl); (exact info_en); simp only [Act.put, List.setIfInBounds_toArray, List.set_cons_zero, List.set_cons_succ]))
      refine (HV3.out _).mono ?_
      rintro e w9 ⟨rfl, hb⟩
      have HS8 : Hid (Hp w [.cd C, .ob B1 28 (enCells ⟨l, 8, t, p, g, r, c, s⟩), .ob B2 28 (enCells ⟨l, 8, t, l, g, r, c, s⟩)] w9) := (HS7.out).calls hb
      clear hb
      clear HS7
      clear HV3
      go_wp2_with fail
      go_ret
      exact ⟨rfl, (HS8.out).old⟩
end Go.Proofs.Ytgljhfofikjbdaa
