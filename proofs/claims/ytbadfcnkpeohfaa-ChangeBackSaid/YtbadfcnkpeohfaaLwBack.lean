/- the law ChangeBack -/
import Derived.Test.YtbadfcnkpeohfaaLwCh
namespace Go.Proofs.Ytbadfcnkpeohfaa
open Go.RowKit

set_option maxHeartbeats 16000000 in
set_option maxRecDepth 20000 in
theorem back_any (x : Option Addr) (len cap : Nat) (zs : List Int) (w : World) (hr : IsRow .u8 w x len cap zs) :
    Calls Try.prog 5 #[.slice x len cap] w fun e w' => e = .returned (.bool true) ∧ Below w.heap.size w w' := by
  have HR := Lib.hid hr
  clear hr
  obtain ⟨fs, hu⟩ := under_ch
  have HU := Lib.hid hu
  clear hu
  obtain ⟨fp, hu⟩ := under_page
  have HUP := Lib.hid hu
  clear hu
  go_enter Try.func5, Try.ntmps5
  go_wp2_with fail
  refine (awake_ch _).mono ?_
  rintro e w1 ⟨rfl, hb⟩
  have HR1 := Lib.hid (row_below HR.out hb)
  have HF1 := Lib.hid ((Fr.start w).calls hb)
  clear hb HR
  go_wp2_with fail
  refine (new_to 160 (by omega) _ _ _ zs _ HR1.out).mono ?_
  rintro e w2 ⟨rfl, hb2, hc2⟩
  have HS0 : Hid (St w w1.heap.size [] w2) := St.begin HF1.out hb2 hc2
  clear hb2 hc2 HR1 HF1
  generalize w1.heap.size = C at *
  go_wp2_with fail
  refine (draw_page C 1 _ (HS0.out).codes).mono ?_
  rintro e w3 ⟨p, rfl, hp, hb, hc⟩
  have HS1 : Hid (St w C [] w3) := (HS0.out).draws hb hc
  clear hb hc
  clear HS0
  have HP := Lib.hid hp
  have HPl := Lib.hid hp.len
  clear hp
  go_wp2_with (first | ((with_reducible refine wpList_alloc_ob 27 (pgCells (newPg 0)) ?_ ?_); (exact alloc_page); simp only [Act.put, List.setIfInBounds_toArray, List.set_cons_zero, List.set_cons_succ]) | ((with_reducible refine wpList_store_ob 27 (.tmp 4) (w3.heap.size) (pgCells p) (pgCells (newPg 0)) 27 ?_ ?_ ?_ ?_ ?_ ?_ ?_); (exact rfl); (exact rfl); (exact ((HS1.out).put 27 (pgCells (newPg 0))).get 0 rfl); (exact (info_pgc HPl.out)); (exact (pgCells_len HPl.out).symm); (exact (oneCell_pg _)); skip))
  refine (change_any C _ (((HS1.out).put 27 (pgCells (newPg 0))).row 0 rfl ((HS1.out).codes.lt) (pgCells p)).codes).mono ?_
  rintro e w4 ⟨a, rfl, ha, hb, hc⟩
  have HS2 : Hid (St w C [⟨w3.heap.size, 27, pgCells p⟩] w4) := (((HS1.out).put 27 (pgCells (newPg 0))).row 0 rfl ((HS1.out).codes.lt) (pgCells p)).draws hb hc
  have HCx0 : Hid (C < w3.heap.size) := (HS1.out).codes.lt
  clear hb hc
  clear HS1
  generalize w3.heap.size = B1 at *
  have HCB1 : Hid (C < B1) := HCx0.out
  clear HCx0
  obtain ⟨k, hk⟩ := Int.eq_ofNat_of_zero_le ha.slot0
  obtain ⟨ap, as_, ab, aa⟩ := a
  simp only at hk
  subst hk
  have HA := Lib.hid ha
  clear ha
  go_wp2_with fail
  refine (change_any C _ (HS2.out).codes).mono ?_
  rintro e w5 ⟨b, rfl, hb0, hb, hc⟩
  have HS3 : Hid (St w C [⟨B1, 27, pgCells p⟩] w5) := (HS2.out).draws hb hc
  clear hb hc
  clear HS2
  obtain ⟨bp, bs_, bb, ba⟩ := b
  have HB := Lib.hid hb0
  clear hb0
  go_wp2_with (first | ((with_reducible refine wpList_alloc_ob 29 (chCells chNil) ?_ ?_); (exact alloc_ch); simp only [Act.put, List.setIfInBounds_toArray, List.set_cons_zero, List.set_cons_succ]) | ((with_reducible refine wpList_store_ob 29 (.tmp 5) (w5.heap.size) (chCells ⟨ap, (k : Int), ab, aa⟩) (chCells chNil) 29 ?_ ?_ ?_ ?_ ?_ ?_ ?_); (exact rfl); (exact rfl); (exact (((HS3.out).put 29 (chCells chNil)).put 29 (chCells chNil)).get 1 rfl); (exact info_ch); (exact rfl); (exact (oneCell_ch _)); skip) | ((with_reducible refine wpList_store_ob 29 (.tmp 6) ((w5.alloc (.cells (chCells chNil).toArray 29)).heap.size) (chCells ⟨bp, bs_, bb, ba⟩) (chCells chNil) 29 ?_ ?_ ?_ ?_ ?_ ?_ ?_); (exact rfl); (exact rfl); (exact ((((HS3.out).put 29 (chCells chNil)).put 29 (chCells chNil)).row 1 rfl ((HS3.out).codes.lt) (chCells ⟨ap, (k : Int), ab, aa⟩)).get 2 rfl); (exact info_ch); (exact rfl); (exact (oneCell_ch _)); skip))
  have HS4 : Hid (St w C [⟨B1, 27, pgCells p⟩, ⟨w5.heap.size, 29, chCells ⟨ap, (k : Int), ab, aa⟩⟩, ⟨(w5.alloc (.cells (chCells chNil).toArray 29)).heap.size, 29, chCells ⟨bp, bs_, bb, ba⟩⟩] ((((w5.alloc (.cells (chCells chNil).toArray 29)).alloc (.cells (chCells chNil).toArray 29)).setRow w5.heap.size (chCells ⟨ap, (k : Int), ab, aa⟩).toArray).setRow (w5.alloc (.cells (chCells chNil).toArray 29)).heap.size (chCells ⟨bp, bs_, bb, ba⟩).toArray)) := ((((HS3.out).put 29 (chCells chNil)).put 29 (chCells chNil)).row 1 rfl ((HS3.out).codes.lt) (chCells ⟨ap, (k : Int), ab, aa⟩)).row 2 rfl (((HS3.out).put 29 (chCells chNil)).codes.lt) (chCells ⟨bp, bs_, bb, ba⟩)
  have HCx0 : Hid (C < w5.heap.size) := (HS3.out).codes.lt
  have HCx1 : Hid (C < (w5.alloc (.cells (chCells chNil).toArray 29)).heap.size) := ((HS3.out).put 29 (chCells chNil)).codes.lt
  clear HS3
  generalize ((((w5.alloc (.cells (chCells chNil).toArray 29)).alloc (.cells (chCells chNil).toArray 29)).setRow w5.heap.size (chCells ⟨ap, (k : Int), ab, aa⟩).toArray).setRow (w5.alloc (.cells (chCells chNil).toArray 29)).heap.size (chCells ⟨bp, bs_, bb, ba⟩).toArray) = w6 at *
  generalize (w5.alloc (.cells (chCells chNil).toArray 29)).heap.size = B2 at *
  generalize w5.heap.size = B3 at *
  have HCB3 : Hid (C < B3) := HCx0.out
  clear HCx0
  have HCB2 : Hid (C < B2) := HCx1.out
  clear HCx1
  obtain ⟨c, hcx⟩ : ∃ c, p.cells.getD k emptyCl = c := ⟨_, rfl⟩
  have hk16 : k < 16 := by have := HA.out.slot1; simp only at this; omega
  have hkl : k < p.cells.length := by rw [HPl.out]; exact hk16
  have HCX := Lib.hid hcx
  have hcx' : p.cells[k] = c := (getD_eq hkl).symm.trans hcx
  have HK0 : Hid ((pgCells p)[2 + k * 2]? = some (.bool c.set)) := by rw [← hcx']; exact (pgCells_at p k hkl).1
  have HK1 : Hid ((pgCells p)[2 + k * 2 + 1]? = some (.string c.data)) := by rw [← hcx']; exact (pgCells_at p k hkl).2
  have HKL := Lib.hid hkl
  clear hcx' hkl hcx
  have hk0 : (0 : Int) ≤ (k : Int) := by omega
  have hki : (k : Int) < 16 := by omega
  have l0 : w6.cell? ⟨B3, 1, none⟩ = some (.int .i64 (k : Int)) := (HS4.out.at 1 rfl).at (1) rfl
  have l1 : w6.cell? ⟨B1, 2 + k * 2, none⟩ = some (.bool c.set) := (HS4.out.at 0 rfl).at (2 + k * 2) HK0.out
  have l2 : w6.cell? ⟨B1, 2 + k * 2 + 1, none⟩ = some (.string c.data) := (HS4.out.at 0 rfl).at (2 + k * 2 + 1) HK1.out
  have s0 : w6.cell? ⟨B3, 0, none⟩ = some (.int .i64 ap) := (HS4.out.at 1 rfl).at 0 rfl
  have f0 : w6.frozen? ⟨B3, 0, none⟩ = false := (HS4.out.at 1 rfl).frozen 0
  have s2 : w6.cell? ⟨B3, 2, none⟩ = some (.bool ab.set) := (HS4.out.at 1 rfl).at 2 rfl
  have f2 : w6.frozen? ⟨B3, 2, none⟩ = false := (HS4.out.at 1 rfl).frozen 2
  have s3 : w6.cell? ⟨B3, 3, none⟩ = some (.string ab.data) := (HS4.out.at 1 rfl).at 3 rfl
  have f3 : w6.frozen? ⟨B3, 3, none⟩ = false := (HS4.out.at 1 rfl).frozen 3
  have ne0 : B3 ≠ B1 := Fr.ne (HS4.out).fr 1 0 rfl rfl (by decide)
  go_region_held3 (fun w' => w'.cell? ⟨B3, 1, none⟩ = some (.int .i64 (k : Int)) ∧ w'.cell? ⟨B1, 2 + k * 2, none⟩ = some (.bool c.set) ∧ w'.cell? ⟨B1, 2 + k * 2 + 1, none⟩ = some (.string c.data)) (first | (simp [*, World.cell?_setCell_far]; done) | (simp [*, World.cell?_setCell_far, World.cell?_setCell_other]; done)) (fail)
  rename_i hHeld
  clear hHeld l0 l1 l2 s0 f0 s2 f2 s3 f3 ne0
  have HS5 : Hid (St w C [⟨B1, 27, pgCells p⟩, ⟨B3, 29, chCells ⟨1, (k : Int), c, aa⟩⟩, ⟨B2, 29, chCells ⟨bp, bs_, bb, ba⟩⟩] ((((w6).setCell ⟨B3, 0, none⟩ (.int .i64 1)).setCell ⟨B3, 2, none⟩ (.bool c.set)).setCell ⟨B3, 3, none⟩ (.string c.data)).drew) := ((((HS4.out).set 1 rfl HCB3.out 0 (.int .i64 1)).set 1 rfl HCB3.out 2 (.bool c.set)).set 1 rfl HCB3.out 3 (.string c.data)).drew
  clear HS4
  generalize ((((w6).setCell ⟨B3, 0, none⟩ (.int .i64 1)).setCell ⟨B3, 2, none⟩ (.bool c.set)).setCell ⟨B3, 3, none⟩ (.string c.data)).drew = w7 at *
  go_wp2_with fail
  have l0 : w7.cell? ⟨B3, 1, none⟩ = some (.int .i64 (k : Int)) := (HS5.out.at 1 rfl).at (1) rfl
  have l1 : w7.cell? ⟨B3, 4, none⟩ = some (.bool aa.set) := (HS5.out.at 1 rfl).at (4) rfl
  have l2 : w7.cell? ⟨B3, 5, none⟩ = some (.string aa.data) := (HS5.out.at 1 rfl).at (5) rfl
  have s0 : w7.cell? ⟨B2, 0, none⟩ = some (.int .i64 bp) := (HS5.out.at 2 rfl).at 0 rfl
  have f0 : w7.frozen? ⟨B2, 0, none⟩ = false := (HS5.out.at 2 rfl).frozen 0
  have s1 : w7.cell? ⟨B2, 1, none⟩ = some (.int .i64 bs_) := (HS5.out.at 2 rfl).at 1 rfl
  have f1 : w7.frozen? ⟨B2, 1, none⟩ = false := (HS5.out.at 2 rfl).frozen 1
  have s2 : w7.cell? ⟨B2, 2, none⟩ = some (.bool bb.set) := (HS5.out.at 2 rfl).at 2 rfl
  have f2 : w7.frozen? ⟨B2, 2, none⟩ = false := (HS5.out.at 2 rfl).frozen 2
  have s3 : w7.cell? ⟨B2, 3, none⟩ = some (.string bb.data) := (HS5.out.at 2 rfl).at 3 rfl
  have f3 : w7.frozen? ⟨B2, 3, none⟩ = false := (HS5.out.at 2 rfl).frozen 3
  have ne1 : B2 ≠ B3 := Fr.ne (HS5.out).fr 2 1 rfl rfl (by decide)
  go_region_held3 (fun w' => w'.cell? ⟨B3, 1, none⟩ = some (.int .i64 (k : Int)) ∧ w'.cell? ⟨B3, 4, none⟩ = some (.bool aa.set) ∧ w'.cell? ⟨B3, 5, none⟩ = some (.string aa.data)) (first | (simp [*, World.cell?_setCell_far]; done) | (simp [*, World.cell?_setCell_far, World.cell?_setCell_other]; done)) (fail)
  rename_i hHeld
  clear hHeld l0 l1 l2 s0 f0 s1 f1 s2 f2 s3 f3 ne1
  have HS6 : Hid (St w C [⟨B1, 27, pgCells p⟩, ⟨B3, 29, chCells ⟨1, (k : Int), c, aa⟩⟩, ⟨B2, 29, chCells ⟨1, (k : Int), aa, ba⟩⟩] (((((w7).setCell ⟨B2, 0, none⟩ (.int .i64 1)).setCell ⟨B2, 1, none⟩ (.int .i64 (k : Int))).setCell ⟨B2, 2, none⟩ (.bool aa.set)).setCell ⟨B2, 3, none⟩ (.string aa.data)).drew) := (((((HS5.out).set 2 rfl HCB2.out 0 (.int .i64 1)).set 2 rfl HCB2.out 1 (.int .i64 (k : Int))).set 2 rfl HCB2.out 2 (.bool aa.set)).set 2 rfl HCB2.out 3 (.string aa.data)).drew
  clear HS5
  generalize (((((w7).setCell ⟨B2, 0, none⟩ (.int .i64 1)).setCell ⟨B2, 1, none⟩ (.int .i64 (k : Int))).setCell ⟨B2, 2, none⟩ (.bool aa.set)).setCell ⟨B2, 3, none⟩ (.string aa.data)).drew = w8 at *

  have HBF := Lib.hid (back_facts HP.out k hk16 HCX.out HA.out.after HB.out.after)
  generalize (⟨p.id, p.lsn, p.cells.set k aa⟩ : Pg) = P1 at *
  generalize (⟨p.id, p.lsn, p.cells.set k ba⟩ : Pg) = P2 at *
  have HP1l := Lib.hid HBF.out.g1.len
  have HP2l := Lib.hid HBF.out.g2.len
  generalize hA : (⟨1, (k : Int), c, aa⟩ : Chg) = A at *
  generalize hB : (⟨1, (k : Int), aa, ba⟩ : Chg) = B at *
  generalize hJ : (⟨1, (k : Int), c, ba⟩ : Chg) = J at *
  clear hk0 hki hk16 HK0 HK1 HKL HCX HP HA HB hA hB hJ
  go_wp2_with (first | ((with_reducible refine wpList_load_ob 27 (.tmp 4) B1 (pgCells p) 27 HUP.out ?_ ?_ ?_ ?_ ?_); (exact rfl); (exact (HS6.out).get 0 rfl); (exact rfl); (exact (info_pgc HPl.out)); simp only [Act.put, List.setIfInBounds_toArray, List.set_cons_zero, List.set_cons_succ]) | ((with_reducible refine wpList_load_ob 29 (.tmp 5) B3 (chCells A) 29 HU.out ?_ ?_ ?_ ?_ ?_); (exact rfl); (exact (HS6.out).get 1 rfl); (exact rfl); (exact info_ch); simp only [Act.put, List.setIfInBounds_toArray, List.set_cons_zero, List.set_cons_succ]))
  refine (apply_at HBF.out.pa HBF.out.gp HBF.out.ga _).mono ?_
  rintro e w9 ⟨rfl, hb⟩
  have HS7 : Hid (St w C [⟨B1, 27, pgCells p⟩, ⟨B3, 29, chCells A⟩, ⟨B2, 29, chCells B⟩] w9) := (HS6.out).calls hb
  clear hb
  clear HS6
  go_wp2_with (first | ((with_reducible refine wpList_alloc_ob 27 (pgCells (newPg 0)) ?_ ?_); (exact alloc_page); simp only [Act.put, List.setIfInBounds_toArray, List.set_cons_zero, List.set_cons_succ]) | ((with_reducible refine wpList_store_ob 27 (.tmp 7) (w9.heap.size) (pgCells P1) (pgCells (newPg 0)) 27 ?_ ?_ ?_ ?_ ?_ ?_ ?_); (exact rfl); (exact rfl); (exact ((HS7.out).put 27 (pgCells (newPg 0))).get 3 rfl); (exact (info_pgc HP1l.out)); (exact (pgCells_len HP1l.out).symm); (exact (oneCell_pg _)); skip) | ((with_reducible refine wpList_load_ob 27 (.tmp 7) (w9.heap.size) (pgCells P1) 27 HUP.out ?_ ?_ ?_ ?_ ?_); (exact rfl); (exact (((HS7.out).put 27 (pgCells (newPg 0))).row 3 rfl ((HS7.out).codes.lt) (pgCells P1)).get 3 rfl); (exact rfl); (exact (info_pgc HP1l.out)); simp only [Act.put, List.setIfInBounds_toArray, List.set_cons_zero, List.set_cons_succ]) | ((with_reducible refine wpList_load_ob 29 (.tmp 6) B2 (chCells B) 29 HU.out ?_ ?_ ?_ ?_ ?_); (exact rfl); (exact (((HS7.out).put 27 (pgCells (newPg 0))).row 3 rfl ((HS7.out).codes.lt) (pgCells P1)).get 2 rfl); (exact rfl); (exact info_ch); simp only [Act.put, List.setIfInBounds_toArray, List.set_cons_zero, List.set_cons_succ]))
  refine (apply_at HBF.out.pb HBF.out.g1 HBF.out.gb _).mono ?_
  rintro e w10 ⟨rfl, hb⟩
  have HS8 : Hid (St w C [⟨B1, 27, pgCells p⟩, ⟨B3, 29, chCells A⟩, ⟨B2, 29, chCells B⟩, ⟨w9.heap.size, 27, pgCells P1⟩] w10) := (((HS7.out).put 27 (pgCells (newPg 0))).row 3 rfl ((HS7.out).codes.lt) (pgCells P1)).calls hb
  have HCx0 : Hid (C < w9.heap.size) := (HS7.out).codes.lt
  clear hb
  clear HS7
  generalize w9.heap.size = B4 at *
  have HCB4 : Hid (C < B4) := HCx0.out
  clear HCx0
  go_upto_region 10 with (first | ((with_reducible refine wpList_alloc_ob 27 (pgCells (newPg 0)) ?_ ?_); (exact alloc_page); simp only [Act.put, List.setIfInBounds_toArray, List.set_cons_zero, List.set_cons_succ]) | ((with_reducible refine wpList_store_ob 27 (.tmp 9) (w10.heap.size) (pgCells P2) (pgCells (newPg 0)) 27 ?_ ?_ ?_ ?_ ?_ ?_ ?_); (exact rfl); (exact rfl); (exact ((HS8.out).put 27 (pgCells (newPg 0))).get 4 rfl); (exact (info_pgc HP2l.out)); (exact (pgCells_len HP2l.out).symm); (exact (oneCell_pg _)); skip))
  have HS9 : Hid (St w C [⟨B1, 27, pgCells p⟩, ⟨B3, 29, chCells A⟩, ⟨B2, 29, chCells B⟩, ⟨B4, 27, pgCells P1⟩, ⟨w10.heap.size, 27, pgCells P2⟩] ((w10.alloc (.cells (pgCells (newPg 0)).toArray 27)).setRow w10.heap.size (pgCells P2).toArray)) := ((HS8.out).put 27 (pgCells (newPg 0))).row 4 rfl ((HS8.out).codes.lt) (pgCells P2)
  have HCx0 : Hid (C < w10.heap.size) := (HS8.out).codes.lt
  clear HS8
  generalize ((w10.alloc (.cells (pgCells (newPg 0)).toArray 27)).setRow w10.heap.size (pgCells P2).toArray) = w11 at *
  generalize w10.heap.size = B5 at *
  have HCB5 : Hid (C < B5) := HCx0.out
  clear HCx0
  go_cut [11, 12] (fun s11 s12 wx => ∃ bq, s11 = .pointer (some ⟨bq, 0, none⟩) ∧ s12 = .int .i64 0 ∧ C < bq ∧ St w C [⟨B1, 27, pgCells p⟩, ⟨B3, 29, chCells A⟩, ⟨B2, 29, chCells B⟩, ⟨B4, 27, pgCells P1⟩, ⟨B5, 27, pgCells P2⟩, ⟨bq, 27, pgCells p⟩] wx)
  case first =>
    refine wp_region_held_drew (S := fun w' => Obs [⟨B1, 27, pgCells p⟩, ⟨B3, 29, chCells A⟩, ⟨B2, 29, chCells B⟩, ⟨B4, 27, pgCells P1⟩, ⟨B5, 27, pgCells P2⟩] w') (by kernel_rfl) ?_ (fun hHeld => ?_)
    · exact (HS9.out).all
    refine wpAnyH_take (i := 0) (oi := { dst := some 56, op := Op.load 27 (Operand.tmp 7), type := 27, pos := "law.go:90", after := #[], guard := none }) rfl (by kernel_rfl) (by kernel_rfl) (by kernel_rfl) (fun _ _ _ h => h) (yieldsIf_load_mid (by rfl) 27 (.tmp 7) rfl B4 0 rfl (pgCells P1) _ (fun _ h => h.whole 3 rfl) HUP.out rfl ((info_pgc HP1l.out))) hHeld ?_
    try simp only [Act.put, List.setIfInBounds_toArray, List.set_cons_zero, List.set_cons_succ]
    refine wpAnyH_take (i := 1) (oi := { dst := some 57, op := Op.load 29 (Operand.tmp 5), type := 29, pos := "law.go:90", after := #[], guard := none }) rfl (by kernel_rfl) (by kernel_rfl) (by kernel_rfl) (fun _ _ _ h => h) (yieldsIf_load_mid (by rfl) 29 (.tmp 5) rfl B3 0 rfl (chCells A) _ (fun _ h => h.whole 1 rfl) HU.out rfl (info_ch)) hHeld ?_
    try simp only [Act.put, List.setIfInBounds_toArray, List.set_cons_zero, List.set_cons_succ]
    refine wpAnyH_ready (rs := [2, 7]) (by kernel_rfl) (by simp) ?_
    refine AllReadyH.cons (o := { dst := some 58, op := Op.call { callee := Callee.value (Operand.func 17), args := #[Operand.tmp 57], argTypes := #[29] }, type := 29, pos := "law.go:90", after := #[{ on := 1, ground := Ground.data }], guard := none }) rfl (fun K hK => ?_) (AllReadyH.cons (o := { dst := some 11, op := Op.alloc 27, type := 0, pos := "law.go:90", after := #[], guard := none }) rfl (fun K hK => ?_) (AllReadyH.nil))
    · go_simp
      go_wp2_with (go_at_call 17; refine (inverse_any A _).mono ?_; rintro e w12 ⟨rfl, hb⟩)
      have HS10 : Hid (St w C [⟨B1, 27, pgCells p⟩, ⟨B3, 29, chCells A⟩, ⟨B2, 29, chCells B⟩, ⟨B4, 27, pgCells P1⟩, ⟨B5, 27, pgCells P2⟩] w12) := ((HS9.out).drew).calls hb
      refine hK.out _ _ (Obs.init (L := [⟨B1, 27, pgCells p⟩, ⟨B3, 29, chCells A⟩, ⟨B2, 29, chCells B⟩, ⟨B4, 27, pgCells P1⟩, ⟨B5, 27, pgCells P2⟩]) (M := []) HS10.out.all) (fun hHeld => ?_)
      clear hK K hb
      try simp only [Act.put, List.setIfInBounds_toArray, List.set_cons_zero, List.set_cons_succ]
      refine wpAnyH_ready (rs := [3, 7]) (by kernel_rfl) (by simp) ?_
      refine AllReadyH.cons (o := { dst := some 59, op := Op.call { callee := Callee.value (Operand.func 22), args := #[Operand.tmp 56, Operand.tmp 58], argTypes := #[27, 29] }, type := 46, pos := "law.go:90", after := #[{ on := 0, ground := Ground.data }, { on := 2, ground := Ground.data }, { on := 2, ground := Ground.chain }], guard := none }) rfl (fun K hK => ?_) (AllReadyH.cons (o := { dst := some 11, op := Op.alloc 27, type := 0, pos := "law.go:90", after := #[], guard := none }) rfl (fun K hK => ?_) (AllReadyH.nil))
      · go_simp
        go_wp2_with (go_at_call 22; refine (apply_at HBF.out.pi HBF.out.g1 (inv_good HBF.out.ga) _).mono ?_; rintro e w13 ⟨rfl, hb⟩)
        have HS11 : Hid (St w C [⟨B1, 27, pgCells p⟩, ⟨B3, 29, chCells A⟩, ⟨B2, 29, chCells B⟩, ⟨B4, 27, pgCells P1⟩, ⟨B5, 27, pgCells P2⟩] w13) := (HS10.out).calls hb
        refine hK.out _ _ (Obs.init (L := [⟨B1, 27, pgCells p⟩, ⟨B3, 29, chCells A⟩, ⟨B2, 29, chCells B⟩, ⟨B4, 27, pgCells P1⟩, ⟨B5, 27, pgCells P2⟩]) (M := []) HS11.out.all) (fun hHeld => ?_)
        clear hK K hb
        try simp only [Act.put, List.setIfInBounds_toArray, List.set_cons_zero, List.set_cons_succ]
        refine wpAnyH_take (i := 4) (oi := { dst := some 55, op := Op.move (Operand.tmp 59), type := 46, pos := "law.go:90", after := #[{ on := 3, ground := Ground.data }], guard := none }) (v := ?q3v) rfl (by kernel_rfl) (by kernel_rfl) (by kernel_rfl) (fun _ _ _ h => h) (Or.inl ⟨by rfl, ?q3h⟩) hHeld ?q3r
        case q3h => (intro wq hSw; clear hSw; go_simp; try with_reducible rfl)
        try simp only [Act.put, List.setIfInBounds_toArray, List.set_cons_zero, List.set_cons_succ]
        refine wpAnyH_take (i := 5) (oi := { dst := some 60, op := Op.extract (Operand.tmp 55) 0, type := 27, pos := "law.go:90", after := #[{ on := 4, ground := Ground.data }], guard := none }) (v := ?q4v) rfl (by kernel_rfl) (by kernel_rfl) (by kernel_rfl) (fun _ _ _ h => h) (Or.inl ⟨by rfl, ?q4h⟩) hHeld ?q4r
        case q4h => (intro wq hSw; clear hSw; go_simp; try with_reducible rfl)
        try simp only [Act.put, List.setIfInBounds_toArray, List.set_cons_zero, List.set_cons_succ]
        refine wpAnyH_take (i := 6) (oi := { dst := some 61, op := Op.extract (Operand.tmp 55) 1, type := 39, pos := "law.go:90", after := #[{ on := 4, ground := Ground.data }, { on := 8, ground := Ground.gcOnly Departure.lateStores }], guard := none }) (v := ?q5v) rfl (by kernel_rfl) (by kernel_rfl) (by kernel_rfl) (fun _ _ _ h => h) (Or.inl ⟨by rfl, ?q5h⟩) hHeld ?q5r
        case q5h => (intro wq hSw; clear hSw; go_simp; try with_reducible rfl)
        try simp only [Act.put, List.setIfInBounds_toArray, List.set_cons_zero, List.set_cons_succ]
        refine wpAnyH_ready (rs := [7]) (by kernel_rfl) (by simp) ?_
        refine AllReadyH.cons (o := { dst := some 11, op := Op.alloc 27, type := 0, pos := "law.go:90", after := #[], guard := none }) rfl (fun K hK => ?_) (AllReadyH.nil)
        rw [if_pos (by rfl)]
        refine wp_alloc_ob 27 (pgCells (newPg 0)) rfl alloc_page ?_
        have HS12 : Hid (St w C [⟨B1, 27, pgCells p⟩, ⟨B3, 29, chCells A⟩, ⟨B2, 29, chCells B⟩, ⟨B4, 27, pgCells P1⟩, ⟨B5, 27, pgCells P2⟩, ⟨w13.heap.size, 27, pgCells (newPg 0)⟩] (w13.alloc (.cells (pgCells (newPg 0)).toArray 27))) := (HS11.out).put 27 (pgCells (newPg 0))
        have HCx : Hid (C < w13.heap.size) := (HS11.out).codes.lt
        refine hK.out _ _ (Obs.init (L := [⟨B1, 27, pgCells p⟩, ⟨B3, 29, chCells A⟩, ⟨B2, 29, chCells B⟩, ⟨B4, 27, pgCells P1⟩, ⟨B5, 27, pgCells P2⟩]) (M := [⟨w13.heap.size, 27, pgCells (newPg 0)⟩]) HS12.out.all) (fun hHeld => ?_)
        clear hK K
        generalize w13.alloc (.cells (pgCells (newPg 0)).toArray 27) = w14 at *
        generalize w13.heap.size = B6 at *
        have HCB6 : Hid (C < B6) := HCx.out
        clear HCx
        try simp only [Act.put, List.setIfInBounds_toArray, List.set_cons_zero, List.set_cons_succ]
        refine wpAnyH_ready (rs := [8]) (by kernel_rfl) (by simp) ?_
        refine AllReadyH.cons (o := { dst := none, op := Op.store 27 (Operand.tmp 11) (Operand.tmp 60), type := 0, pos := "law.go:90", after := #[{ on := 7, ground := Ground.data }, { on := 5, ground := Ground.data }, { on := 3, ground := Ground.chain }, { on := 0, ground := Ground.phase }, { on := 1, ground := Ground.phase }, { on := 2, ground := Ground.phase }, { on := 3, ground := Ground.phase }, { on := 4, ground := Ground.phase }, { on := 5, ground := Ground.phase }, { on := 6, ground := Ground.textOnly Departure.lateStores }, { on := 7, ground := Ground.phase }], guard := none }) rfl (fun K hK => ?_) (AllReadyH.nil)
        rw [if_pos (by rfl)]
        refine wp_store_ob 27 (.tmp 11) (.tmp 60) B6 (pgCells p) (pgCells (newPg 0)) 27 rfl rfl rfl rfl ((HS12.out).get 5 rfl) ((info_pgc HPl.out)) ((pgCells_len HPl.out).symm) ((oneCell_pg _)) ?_
        have HS13 : Hid (St w C [⟨B1, 27, pgCells p⟩, ⟨B3, 29, chCells A⟩, ⟨B2, 29, chCells B⟩, ⟨B4, 27, pgCells P1⟩, ⟨B5, 27, pgCells P2⟩, ⟨B6, 27, pgCells p⟩] ((w14).setRow B6 (pgCells p).toArray)) := (HS12.out).row 5 rfl HCB6.out (pgCells p)
        refine hK.out _ _ (Obs.init (L := [⟨B1, 27, pgCells p⟩, ⟨B3, 29, chCells A⟩, ⟨B2, 29, chCells B⟩, ⟨B4, 27, pgCells P1⟩, ⟨B5, 27, pgCells P2⟩]) (M := [⟨B6, 27, pgCells p⟩]) HS13.out.all) (fun hHeld => ?_)
        clear hK K
        generalize (w14).setRow B6 (pgCells p).toArray = w15 at *
        try simp only [Act.put, List.setIfInBounds_toArray, List.set_cons_zero, List.set_cons_succ]
        refine wpAnyH_take (i := 9) (oi := { dst := some 12, op := Op.assign (Operand.tmp 61), type := 39, pos := "law.go:90", after := #[{ on := 6, ground := Ground.data }, { on := 8, ground := Ground.chain }, { on := 0, ground := Ground.phase }, { on := 1, ground := Ground.phase }, { on := 2, ground := Ground.phase }, { on := 3, ground := Ground.phase }, { on := 4, ground := Ground.phase }, { on := 5, ground := Ground.phase }, { on := 6, ground := Ground.phase }, { on := 7, ground := Ground.phase }, { on := 8, ground := Ground.phase }], guard := none }) (v := ?q6v) rfl (by kernel_rfl) (by kernel_rfl) (by kernel_rfl) (fun _ _ _ h => h) (Or.inl ⟨by rfl, ?q6h⟩) hHeld ?q6r
        case q6h => (intro wq hSw; clear hSw; go_simp; try with_reducible rfl)
        try simp only [Act.put, List.setIfInBounds_toArray, List.set_cons_zero, List.set_cons_succ]
        refine wpAnyH_done (by kernel_rfl) ?_ _
        go_wp2_with fail
        go_meet
        exact ⟨B6, rfl, rfl, HCB6.out, HS13.out⟩
      · rw [if_pos (by rfl)]
        refine wp_alloc_ob 27 (pgCells (newPg 0)) rfl alloc_page ?_
        have HS11 : Hid (St w C [⟨B1, 27, pgCells p⟩, ⟨B3, 29, chCells A⟩, ⟨B2, 29, chCells B⟩, ⟨B4, 27, pgCells P1⟩, ⟨B5, 27, pgCells P2⟩, ⟨w12.heap.size, 27, pgCells (newPg 0)⟩] (w12.alloc (.cells (pgCells (newPg 0)).toArray 27))) := (HS10.out).put 27 (pgCells (newPg 0))
        have HCx : Hid (C < w12.heap.size) := (HS10.out).codes.lt
        refine hK.out _ _ (Obs.init (L := [⟨B1, 27, pgCells p⟩, ⟨B3, 29, chCells A⟩, ⟨B2, 29, chCells B⟩, ⟨B4, 27, pgCells P1⟩, ⟨B5, 27, pgCells P2⟩]) (M := [⟨w12.heap.size, 27, pgCells (newPg 0)⟩]) HS11.out.all) (fun hHeld => ?_)
        clear hK K
        generalize w12.alloc (.cells (pgCells (newPg 0)).toArray 27) = w13 at *
        generalize w12.heap.size = B6 at *
        have HCB6 : Hid (C < B6) := HCx.out
        clear HCx
        try simp only [Act.put, List.setIfInBounds_toArray, List.set_cons_zero, List.set_cons_succ]
        refine wpAnyH_ready (rs := [3]) (by kernel_rfl) (by simp) ?_
        refine AllReadyH.cons (o := { dst := some 59, op := Op.call { callee := Callee.value (Operand.func 22), args := #[Operand.tmp 56, Operand.tmp 58], argTypes := #[27, 29] }, type := 46, pos := "law.go:90", after := #[{ on := 0, ground := Ground.data }, { on := 2, ground := Ground.data }, { on := 2, ground := Ground.chain }], guard := none }) rfl (fun K hK => ?_) (AllReadyH.nil)
        go_simp
        go_wp2_with (go_at_call 22; refine (apply_at HBF.out.pi HBF.out.g1 (inv_good HBF.out.ga) _).mono ?_; rintro e w14 ⟨rfl, hb⟩)
        have HS12 : Hid (St w C [⟨B1, 27, pgCells p⟩, ⟨B3, 29, chCells A⟩, ⟨B2, 29, chCells B⟩, ⟨B4, 27, pgCells P1⟩, ⟨B5, 27, pgCells P2⟩, ⟨B6, 27, pgCells (newPg 0)⟩] w14) := (HS11.out).calls hb
        refine hK.out _ _ (Obs.init (L := [⟨B1, 27, pgCells p⟩, ⟨B3, 29, chCells A⟩, ⟨B2, 29, chCells B⟩, ⟨B4, 27, pgCells P1⟩, ⟨B5, 27, pgCells P2⟩]) (M := [⟨B6, 27, pgCells (newPg 0)⟩]) HS12.out.all) (fun hHeld => ?_)
        clear hK K hb
        try simp only [Act.put, List.setIfInBounds_toArray, List.set_cons_zero, List.set_cons_succ]
        refine wpAnyH_take (i := 4) (oi := { dst := some 55, op := Op.move (Operand.tmp 59), type := 46, pos := "law.go:90", after := #[{ on := 3, ground := Ground.data }], guard := none }) (v := ?q7v) rfl (by kernel_rfl) (by kernel_rfl) (by kernel_rfl) (fun _ _ _ h => h) (Or.inl ⟨by rfl, ?q7h⟩) hHeld ?q7r
        case q7h => (intro wq hSw; clear hSw; go_simp; try with_reducible rfl)
        try simp only [Act.put, List.setIfInBounds_toArray, List.set_cons_zero, List.set_cons_succ]
        refine wpAnyH_take (i := 5) (oi := { dst := some 60, op := Op.extract (Operand.tmp 55) 0, type := 27, pos := "law.go:90", after := #[{ on := 4, ground := Ground.data }], guard := none }) (v := ?q8v) rfl (by kernel_rfl) (by kernel_rfl) (by kernel_rfl) (fun _ _ _ h => h) (Or.inl ⟨by rfl, ?q8h⟩) hHeld ?q8r
        case q8h => (intro wq hSw; clear hSw; go_simp; try with_reducible rfl)
        try simp only [Act.put, List.setIfInBounds_toArray, List.set_cons_zero, List.set_cons_succ]
        refine wpAnyH_take (i := 6) (oi := { dst := some 61, op := Op.extract (Operand.tmp 55) 1, type := 39, pos := "law.go:90", after := #[{ on := 4, ground := Ground.data }, { on := 8, ground := Ground.gcOnly Departure.lateStores }], guard := none }) (v := ?q9v) rfl (by kernel_rfl) (by kernel_rfl) (by kernel_rfl) (fun _ _ _ h => h) (Or.inl ⟨by rfl, ?q9h⟩) hHeld ?q9r
        case q9h => (intro wq hSw; clear hSw; go_simp; try with_reducible rfl)
        try simp only [Act.put, List.setIfInBounds_toArray, List.set_cons_zero, List.set_cons_succ]
        refine wpAnyH_ready (rs := [8]) (by kernel_rfl) (by simp) ?_
        refine AllReadyH.cons (o := { dst := none, op := Op.store 27 (Operand.tmp 11) (Operand.tmp 60), type := 0, pos := "law.go:90", after := #[{ on := 7, ground := Ground.data }, { on := 5, ground := Ground.data }, { on := 3, ground := Ground.chain }, { on := 0, ground := Ground.phase }, { on := 1, ground := Ground.phase }, { on := 2, ground := Ground.phase }, { on := 3, ground := Ground.phase }, { on := 4, ground := Ground.phase }, { on := 5, ground := Ground.phase }, { on := 6, ground := Ground.textOnly Departure.lateStores }, { on := 7, ground := Ground.phase }], guard := none }) rfl (fun K hK => ?_) (AllReadyH.nil)
        rw [if_pos (by rfl)]
        refine wp_store_ob 27 (.tmp 11) (.tmp 60) B6 (pgCells p) (pgCells (newPg 0)) 27 rfl rfl rfl rfl ((HS12.out).get 5 rfl) ((info_pgc HPl.out)) ((pgCells_len HPl.out).symm) ((oneCell_pg _)) ?_
        have HS13 : Hid (St w C [⟨B1, 27, pgCells p⟩, ⟨B3, 29, chCells A⟩, ⟨B2, 29, chCells B⟩, ⟨B4, 27, pgCells P1⟩, ⟨B5, 27, pgCells P2⟩, ⟨B6, 27, pgCells p⟩] ((w14).setRow B6 (pgCells p).toArray)) := (HS12.out).row 5 rfl HCB6.out (pgCells p)
        refine hK.out _ _ (Obs.init (L := [⟨B1, 27, pgCells p⟩, ⟨B3, 29, chCells A⟩, ⟨B2, 29, chCells B⟩, ⟨B4, 27, pgCells P1⟩, ⟨B5, 27, pgCells P2⟩]) (M := [⟨B6, 27, pgCells p⟩]) HS13.out.all) (fun hHeld => ?_)
        clear hK K
        generalize (w14).setRow B6 (pgCells p).toArray = w15 at *
        try simp only [Act.put, List.setIfInBounds_toArray, List.set_cons_zero, List.set_cons_succ]
        refine wpAnyH_take (i := 9) (oi := { dst := some 12, op := Op.assign (Operand.tmp 61), type := 39, pos := "law.go:90", after := #[{ on := 6, ground := Ground.data }, { on := 8, ground := Ground.chain }, { on := 0, ground := Ground.phase }, { on := 1, ground := Ground.phase }, { on := 2, ground := Ground.phase }, { on := 3, ground := Ground.phase }, { on := 4, ground := Ground.phase }, { on := 5, ground := Ground.phase }, { on := 6, ground := Ground.phase }, { on := 7, ground := Ground.phase }, { on := 8, ground := Ground.phase }], guard := none }) (v := ?q10v) rfl (by kernel_rfl) (by kernel_rfl) (by kernel_rfl) (fun _ _ _ h => h) (Or.inl ⟨by rfl, ?q10h⟩) hHeld ?q10r
        case q10h => (intro wq hSw; clear hSw; go_simp; try with_reducible rfl)
        try simp only [Act.put, List.setIfInBounds_toArray, List.set_cons_zero, List.set_cons_succ]
        refine wpAnyH_done (by kernel_rfl) ?_ _
        go_wp2_with fail
        go_meet
        exact ⟨B6, rfl, rfl, HCB6.out, HS13.out⟩
    · rw [if_pos (by rfl)]
      refine wp_alloc_ob 27 (pgCells (newPg 0)) rfl alloc_page ?_
      have HS10 : Hid (St w C [⟨B1, 27, pgCells p⟩, ⟨B3, 29, chCells A⟩, ⟨B2, 29, chCells B⟩, ⟨B4, 27, pgCells P1⟩, ⟨B5, 27, pgCells P2⟩, ⟨(w11.drew).heap.size, 27, pgCells (newPg 0)⟩] ((w11.drew).alloc (.cells (pgCells (newPg 0)).toArray 27))) := ((HS9.out).drew).put 27 (pgCells (newPg 0))
      have HCx : Hid (C < (w11.drew).heap.size) := ((HS9.out).drew).codes.lt
      refine hK.out _ _ (Obs.init (L := [⟨B1, 27, pgCells p⟩, ⟨B3, 29, chCells A⟩, ⟨B2, 29, chCells B⟩, ⟨B4, 27, pgCells P1⟩, ⟨B5, 27, pgCells P2⟩]) (M := [⟨(w11.drew).heap.size, 27, pgCells (newPg 0)⟩]) HS10.out.all) (fun hHeld => ?_)
      clear hK K
      generalize (w11.drew).alloc (.cells (pgCells (newPg 0)).toArray 27) = w12 at *
      generalize (w11.drew).heap.size = B6 at *
      have HCB6 : Hid (C < B6) := HCx.out
      clear HCx
      try simp only [Act.put, List.setIfInBounds_toArray, List.set_cons_zero, List.set_cons_succ]
      refine wpAnyH_ready (rs := [2]) (by kernel_rfl) (by simp) ?_
      refine AllReadyH.cons (o := { dst := some 58, op := Op.call { callee := Callee.value (Operand.func 17), args := #[Operand.tmp 57], argTypes := #[29] }, type := 29, pos := "law.go:90", after := #[{ on := 1, ground := Ground.data }], guard := none }) rfl (fun K hK => ?_) (AllReadyH.nil)
      go_simp
      go_wp2_with (go_at_call 17; refine (inverse_any A _).mono ?_; rintro e w13 ⟨rfl, hb⟩)
      have HS11 : Hid (St w C [⟨B1, 27, pgCells p⟩, ⟨B3, 29, chCells A⟩, ⟨B2, 29, chCells B⟩, ⟨B4, 27, pgCells P1⟩, ⟨B5, 27, pgCells P2⟩, ⟨B6, 27, pgCells (newPg 0)⟩] w13) := (HS10.out).calls hb
      refine hK.out _ _ (Obs.init (L := [⟨B1, 27, pgCells p⟩, ⟨B3, 29, chCells A⟩, ⟨B2, 29, chCells B⟩, ⟨B4, 27, pgCells P1⟩, ⟨B5, 27, pgCells P2⟩]) (M := [⟨B6, 27, pgCells (newPg 0)⟩]) HS11.out.all) (fun hHeld => ?_)
      clear hK K hb
      try simp only [Act.put, List.setIfInBounds_toArray, List.set_cons_zero, List.set_cons_succ]
      refine wpAnyH_ready (rs := [3]) (by kernel_rfl) (by simp) ?_
      refine AllReadyH.cons (o := { dst := some 59, op := Op.call { callee := Callee.value (Operand.func 22), args := #[Operand.tmp 56, Operand.tmp 58], argTypes := #[27, 29] }, type := 46, pos := "law.go:90", after := #[{ on := 0, ground := Ground.data }, { on := 2, ground := Ground.data }, { on := 2, ground := Ground.chain }], guard := none }) rfl (fun K hK => ?_) (AllReadyH.nil)
      go_simp
      go_wp2_with (go_at_call 22; refine (apply_at HBF.out.pi HBF.out.g1 (inv_good HBF.out.ga) _).mono ?_; rintro e w14 ⟨rfl, hb⟩)
      have HS12 : Hid (St w C [⟨B1, 27, pgCells p⟩, ⟨B3, 29, chCells A⟩, ⟨B2, 29, chCells B⟩, ⟨B4, 27, pgCells P1⟩, ⟨B5, 27, pgCells P2⟩, ⟨B6, 27, pgCells (newPg 0)⟩] w14) := (HS11.out).calls hb
      refine hK.out _ _ (Obs.init (L := [⟨B1, 27, pgCells p⟩, ⟨B3, 29, chCells A⟩, ⟨B2, 29, chCells B⟩, ⟨B4, 27, pgCells P1⟩, ⟨B5, 27, pgCells P2⟩]) (M := [⟨B6, 27, pgCells (newPg 0)⟩]) HS12.out.all) (fun hHeld => ?_)
      clear hK K hb
      try simp only [Act.put, List.setIfInBounds_toArray, List.set_cons_zero, List.set_cons_succ]
      refine wpAnyH_take (i := 4) (oi := { dst := some 55, op := Op.move (Operand.tmp 59), type := 46, pos := "law.go:90", after := #[{ on := 3, ground := Ground.data }], guard := none }) (v := ?q11v) rfl (by kernel_rfl) (by kernel_rfl) (by kernel_rfl) (fun _ _ _ h => h) (Or.inl ⟨by rfl, ?q11h⟩) hHeld ?q11r
      case q11h => (intro wq hSw; clear hSw; go_simp; try with_reducible rfl)
      try simp only [Act.put, List.setIfInBounds_toArray, List.set_cons_zero, List.set_cons_succ]
      refine wpAnyH_take (i := 5) (oi := { dst := some 60, op := Op.extract (Operand.tmp 55) 0, type := 27, pos := "law.go:90", after := #[{ on := 4, ground := Ground.data }], guard := none }) (v := ?q12v) rfl (by kernel_rfl) (by kernel_rfl) (by kernel_rfl) (fun _ _ _ h => h) (Or.inl ⟨by rfl, ?q12h⟩) hHeld ?q12r
      case q12h => (intro wq hSw; clear hSw; go_simp; try with_reducible rfl)
      try simp only [Act.put, List.setIfInBounds_toArray, List.set_cons_zero, List.set_cons_succ]
      refine wpAnyH_take (i := 6) (oi := { dst := some 61, op := Op.extract (Operand.tmp 55) 1, type := 39, pos := "law.go:90", after := #[{ on := 4, ground := Ground.data }, { on := 8, ground := Ground.gcOnly Departure.lateStores }], guard := none }) (v := ?q13v) rfl (by kernel_rfl) (by kernel_rfl) (by kernel_rfl) (fun _ _ _ h => h) (Or.inl ⟨by rfl, ?q13h⟩) hHeld ?q13r
      case q13h => (intro wq hSw; clear hSw; go_simp; try with_reducible rfl)
      try simp only [Act.put, List.setIfInBounds_toArray, List.set_cons_zero, List.set_cons_succ]
      refine wpAnyH_ready (rs := [8]) (by kernel_rfl) (by simp) ?_
      refine AllReadyH.cons (o := { dst := none, op := Op.store 27 (Operand.tmp 11) (Operand.tmp 60), type := 0, pos := "law.go:90", after := #[{ on := 7, ground := Ground.data }, { on := 5, ground := Ground.data }, { on := 3, ground := Ground.chain }, { on := 0, ground := Ground.phase }, { on := 1, ground := Ground.phase }, { on := 2, ground := Ground.phase }, { on := 3, ground := Ground.phase }, { on := 4, ground := Ground.phase }, { on := 5, ground := Ground.phase }, { on := 6, ground := Ground.textOnly Departure.lateStores }, { on := 7, ground := Ground.phase }], guard := none }) rfl (fun K hK => ?_) (AllReadyH.nil)
      rw [if_pos (by rfl)]
      refine wp_store_ob 27 (.tmp 11) (.tmp 60) B6 (pgCells p) (pgCells (newPg 0)) 27 rfl rfl rfl rfl ((HS12.out).get 5 rfl) ((info_pgc HPl.out)) ((pgCells_len HPl.out).symm) ((oneCell_pg _)) ?_
      have HS13 : Hid (St w C [⟨B1, 27, pgCells p⟩, ⟨B3, 29, chCells A⟩, ⟨B2, 29, chCells B⟩, ⟨B4, 27, pgCells P1⟩, ⟨B5, 27, pgCells P2⟩, ⟨B6, 27, pgCells p⟩] ((w14).setRow B6 (pgCells p).toArray)) := (HS12.out).row 5 rfl HCB6.out (pgCells p)
      refine hK.out _ _ (Obs.init (L := [⟨B1, 27, pgCells p⟩, ⟨B3, 29, chCells A⟩, ⟨B2, 29, chCells B⟩, ⟨B4, 27, pgCells P1⟩, ⟨B5, 27, pgCells P2⟩]) (M := [⟨B6, 27, pgCells p⟩]) HS13.out.all) (fun hHeld => ?_)
      clear hK K
      generalize (w14).setRow B6 (pgCells p).toArray = w15 at *
      try simp only [Act.put, List.setIfInBounds_toArray, List.set_cons_zero, List.set_cons_succ]
      refine wpAnyH_take (i := 9) (oi := { dst := some 12, op := Op.assign (Operand.tmp 61), type := 39, pos := "law.go:90", after := #[{ on := 6, ground := Ground.data }, { on := 8, ground := Ground.chain }, { on := 0, ground := Ground.phase }, { on := 1, ground := Ground.phase }, { on := 2, ground := Ground.phase }, { on := 3, ground := Ground.phase }, { on := 4, ground := Ground.phase }, { on := 5, ground := Ground.phase }, { on := 6, ground := Ground.phase }, { on := 7, ground := Ground.phase }, { on := 8, ground := Ground.phase }], guard := none }) (v := ?q14v) rfl (by kernel_rfl) (by kernel_rfl) (by kernel_rfl) (fun _ _ _ h => h) (Or.inl ⟨by rfl, ?q14h⟩) hHeld ?q14r
      case q14h => (intro wq hSw; clear hSw; go_simp; try with_reducible rfl)
      try simp only [Act.put, List.setIfInBounds_toArray, List.set_cons_zero, List.set_cons_succ]
      refine wpAnyH_done (by kernel_rfl) ?_ _
      go_wp2_with fail
      go_meet
      exact ⟨B6, rfl, rfl, HCB6.out, HS13.out⟩
  case rest =>
    obtain ⟨B16, rfl, rfl, hC, hs⟩ := hcut
    have HS23 : Hid (St w C [⟨B1, 27, pgCells p⟩, ⟨B3, 29, chCells A⟩, ⟨B2, 29, chCells B⟩, ⟨B4, 27, pgCells P1⟩, ⟨B5, 27, pgCells P2⟩, ⟨B16, 27, pgCells p⟩] wc) := hs
    have HCB16 : Hid (C < B16) := hC
    clear hs hC HS9
    generalize wc = w22 at *
    go_wp2_with (first | ((with_reducible refine wpList_load_ob 29 (.tmp 5) B3 (chCells A) 29 HU.out ?_ ?_ ?_ ?_ ?_); (exact rfl); (exact (HS23.out).get 1 rfl); (exact rfl); (exact info_ch); simp only [Act.put, List.setIfInBounds_toArray, List.set_cons_zero, List.set_cons_succ]) | ((with_reducible refine wpList_load_ob 29 (.tmp 6) B2 (chCells B) 29 HU.out ?_ ?_ ?_ ?_ ?_); (exact rfl); (exact (HS23.out).get 2 rfl); (exact rfl); (exact info_ch); simp only [Act.put, List.setIfInBounds_toArray, List.set_cons_zero, List.set_cons_succ]))
    refine (join_at HBF.out.jab HBF.out.ga HBF.out.gb _).mono ?_
    rintro e w23 ⟨rfl, hb⟩
    have HS24 : Hid (St w C [⟨B1, 27, pgCells p⟩, ⟨B3, 29, chCells A⟩, ⟨B2, 29, chCells B⟩, ⟨B4, 27, pgCells P1⟩, ⟨B5, 27, pgCells P2⟩, ⟨B16, 27, pgCells p⟩] w23) := (HS23.out).calls hb
    clear hb
    clear HS23
    go_wp2_with (first | ((with_reducible refine wpList_alloc_ob 29 (chCells chNil) ?_ ?_); (exact alloc_ch); simp only [Act.put, List.setIfInBounds_toArray, List.set_cons_zero, List.set_cons_succ]) | ((with_reducible refine wpList_store_ob 29 (.tmp 13) (w23.heap.size) (chCells J) (chCells chNil) 29 ?_ ?_ ?_ ?_ ?_ ?_ ?_); (exact rfl); (exact rfl); (exact ((HS24.out).put 29 (chCells chNil)).get 6 rfl); (exact info_ch); (exact rfl); (exact (oneCell_ch _)); skip) | ((with_reducible refine wpList_load_ob 27 (.tmp 4) B1 (pgCells p) 27 HUP.out ?_ ?_ ?_ ?_ ?_); (exact rfl); (exact (((HS24.out).put 29 (chCells chNil)).row 6 rfl ((HS24.out).codes.lt) (chCells J)).get 0 rfl); (exact rfl); (exact (info_pgc HPl.out)); simp only [Act.put, List.setIfInBounds_toArray, List.set_cons_zero, List.set_cons_succ]) | ((with_reducible refine wpList_load_ob 29 (.tmp 13) (w23.heap.size) (chCells J) 29 HU.out ?_ ?_ ?_ ?_ ?_); (exact rfl); (exact (((HS24.out).put 29 (chCells chNil)).row 6 rfl ((HS24.out).codes.lt) (chCells J)).get 6 rfl); (exact rfl); (exact info_ch); simp only [Act.put, List.setIfInBounds_toArray, List.set_cons_zero, List.set_cons_succ]))
    refine (apply_at HBF.out.pj HBF.out.gp HBF.out.gj _).mono ?_
    rintro e w24 ⟨rfl, hb⟩
    have HS25 : Hid (St w C [⟨B1, 27, pgCells p⟩, ⟨B3, 29, chCells A⟩, ⟨B2, 29, chCells B⟩, ⟨B4, 27, pgCells P1⟩, ⟨B5, 27, pgCells P2⟩, ⟨B16, 27, pgCells p⟩, ⟨w23.heap.size, 29, chCells J⟩] w24) := (((HS24.out).put 29 (chCells chNil)).row 6 rfl ((HS24.out).codes.lt) (chCells J)).calls hb
    have HCx0 : Hid (C < w23.heap.size) := (HS24.out).codes.lt
    clear hb
    clear HS24
    generalize w23.heap.size = B17 at *
    have HCB17 : Hid (C < B17) := HCx0.out
    clear HCx0
    go_upto_region 13 with (first | ((with_reducible refine wpList_alloc_ob 27 (pgCells (newPg 0)) ?_ ?_); (exact alloc_page); simp only [Act.put, List.setIfInBounds_toArray, List.set_cons_zero, List.set_cons_succ]) | ((with_reducible refine wpList_store_ob 27 (.tmp 15) (w24.heap.size) (pgCells P2) (pgCells (newPg 0)) 27 ?_ ?_ ?_ ?_ ?_ ?_ ?_); (exact rfl); (exact rfl); (exact ((HS25.out).put 27 (pgCells (newPg 0))).get 7 rfl); (exact (info_pgc HP2l.out)); (exact (pgCells_len HP2l.out).symm); (exact (oneCell_pg _)); skip))
    have HS26 : Hid (St w C [⟨B1, 27, pgCells p⟩, ⟨B3, 29, chCells A⟩, ⟨B2, 29, chCells B⟩, ⟨B4, 27, pgCells P1⟩, ⟨B5, 27, pgCells P2⟩, ⟨B16, 27, pgCells p⟩, ⟨B17, 29, chCells J⟩, ⟨w24.heap.size, 27, pgCells P2⟩] ((w24.alloc (.cells (pgCells (newPg 0)).toArray 27)).setRow w24.heap.size (pgCells P2).toArray)) := ((HS25.out).put 27 (pgCells (newPg 0))).row 7 rfl ((HS25.out).codes.lt) (pgCells P2)
    have HCx0 : Hid (C < w24.heap.size) := (HS25.out).codes.lt
    clear HS25
    generalize ((w24.alloc (.cells (pgCells (newPg 0)).toArray 27)).setRow w24.heap.size (pgCells P2).toArray) = w25 at *
    generalize w24.heap.size = B18 at *
    have HCB18 : Hid (C < B18) := HCx0.out
    clear HCx0
    go_cut [17, 18] (fun s17 s18 wx => ∃ bq, s17 = .pointer (some ⟨bq, 0, none⟩) ∧ s18 = .int .i64 0 ∧ C < bq ∧ St w C [⟨B1, 27, pgCells p⟩, ⟨B3, 29, chCells A⟩, ⟨B2, 29, chCells B⟩, ⟨B4, 27, pgCells P1⟩, ⟨B5, 27, pgCells P2⟩, ⟨B16, 27, pgCells p⟩, ⟨B17, 29, chCells J⟩, ⟨B18, 27, pgCells P2⟩, ⟨bq, 29, chCells (invR J)⟩] wx)
    case first =>
      refine wp_region_held_drew (S := fun w' => Obs [⟨B1, 27, pgCells p⟩, ⟨B3, 29, chCells A⟩, ⟨B2, 29, chCells B⟩, ⟨B4, 27, pgCells P1⟩, ⟨B5, 27, pgCells P2⟩, ⟨B16, 27, pgCells p⟩, ⟨B17, 29, chCells J⟩, ⟨B18, 27, pgCells P2⟩] w') (by kernel_rfl) ?_ (fun hHeld => ?_)
      · exact (HS26.out).all
      refine wpAnyH_take (i := 0) (oi := { dst := some 75, op := Op.load 29 (Operand.tmp 6), type := 29, pos := "law.go:93", after := #[], guard := none }) rfl (by kernel_rfl) (by kernel_rfl) (by kernel_rfl) (fun _ _ _ h => h) (yieldsIf_load_mid (by rfl) 29 (.tmp 6) rfl B2 0 rfl (chCells B) _ (fun _ h => h.whole 2 rfl) HU.out rfl (info_ch)) hHeld ?_
      try simp only [Act.put, List.setIfInBounds_toArray, List.set_cons_zero, List.set_cons_succ]
      refine wpAnyH_take (i := 2) (oi := { dst := some 77, op := Op.load 29 (Operand.tmp 5), type := 29, pos := "law.go:93", after := #[], guard := none }) rfl (by kernel_rfl) (by kernel_rfl) (by kernel_rfl) (fun _ _ _ h => h) (yieldsIf_load_mid (by rfl) 29 (.tmp 5) rfl B3 0 rfl (chCells A) _ (fun _ h => h.whole 1 rfl) HU.out rfl (info_ch)) hHeld ?_
      try simp only [Act.put, List.setIfInBounds_toArray, List.set_cons_zero, List.set_cons_succ]
      refine wpAnyH_ready (rs := [1, 8]) (by kernel_rfl) (by simp) ?_
      refine AllReadyH.cons (o := { dst := some 76, op := Op.call { callee := Callee.value (Operand.func 17), args := #[Operand.tmp 75], argTypes := #[29] }, type := 29, pos := "law.go:93", after := #[{ on := 0, ground := Ground.data }], guard := none }) rfl (fun K hK => ?_) (AllReadyH.cons (o := { dst := some 17, op := Op.alloc 29, type := 0, pos := "law.go:93", after := #[], guard := none }) rfl (fun K hK => ?_) (AllReadyH.nil))
      · go_simp
        go_wp2_with (go_at_call 17; refine (inverse_any B _).mono ?_; rintro e w26 ⟨rfl, hb⟩)
        have HS27 : Hid (St w C [⟨B1, 27, pgCells p⟩, ⟨B3, 29, chCells A⟩, ⟨B2, 29, chCells B⟩, ⟨B4, 27, pgCells P1⟩, ⟨B5, 27, pgCells P2⟩, ⟨B16, 27, pgCells p⟩, ⟨B17, 29, chCells J⟩, ⟨B18, 27, pgCells P2⟩] w26) := ((HS26.out).drew).calls hb
        refine hK.out _ _ (Obs.init (L := [⟨B1, 27, pgCells p⟩, ⟨B3, 29, chCells A⟩, ⟨B2, 29, chCells B⟩, ⟨B4, 27, pgCells P1⟩, ⟨B5, 27, pgCells P2⟩, ⟨B16, 27, pgCells p⟩, ⟨B17, 29, chCells J⟩, ⟨B18, 27, pgCells P2⟩]) (M := []) HS27.out.all) (fun hHeld => ?_)
        clear hK K hb
        try simp only [Act.put, List.setIfInBounds_toArray, List.set_cons_zero, List.set_cons_succ]
        refine wpAnyH_ready (rs := [3, 8]) (by kernel_rfl) (by simp) ?_
        refine AllReadyH.cons (o := { dst := some 78, op := Op.call { callee := Callee.value (Operand.func 17), args := #[Operand.tmp 77], argTypes := #[29] }, type := 29, pos := "law.go:93", after := #[{ on := 2, ground := Ground.data }, { on := 1, ground := Ground.chain }], guard := none }) rfl (fun K hK => ?_) (AllReadyH.cons (o := { dst := some 17, op := Op.alloc 29, type := 0, pos := "law.go:93", after := #[], guard := none }) rfl (fun K hK => ?_) (AllReadyH.nil))
        · go_simp
          go_wp2_with (go_at_call 17; refine (inverse_any A _).mono ?_; rintro e w27 ⟨rfl, hb⟩)
          have HS28 : Hid (St w C [⟨B1, 27, pgCells p⟩, ⟨B3, 29, chCells A⟩, ⟨B2, 29, chCells B⟩, ⟨B4, 27, pgCells P1⟩, ⟨B5, 27, pgCells P2⟩, ⟨B16, 27, pgCells p⟩, ⟨B17, 29, chCells J⟩, ⟨B18, 27, pgCells P2⟩] w27) := (HS27.out).calls hb
          refine hK.out _ _ (Obs.init (L := [⟨B1, 27, pgCells p⟩, ⟨B3, 29, chCells A⟩, ⟨B2, 29, chCells B⟩, ⟨B4, 27, pgCells P1⟩, ⟨B5, 27, pgCells P2⟩, ⟨B16, 27, pgCells p⟩, ⟨B17, 29, chCells J⟩, ⟨B18, 27, pgCells P2⟩]) (M := []) HS28.out.all) (fun hHeld => ?_)
          clear hK K hb
          try simp only [Act.put, List.setIfInBounds_toArray, List.set_cons_zero, List.set_cons_succ]
          refine wpAnyH_ready (rs := [4, 8]) (by kernel_rfl) (by simp) ?_
          refine AllReadyH.cons (o := { dst := some 79, op := Op.call { callee := Callee.value (Operand.func 13), args := #[Operand.tmp 76, Operand.tmp 78], argTypes := #[29, 29] }, type := 40, pos := "law.go:93", after := #[{ on := 1, ground := Ground.data }, { on := 3, ground := Ground.data }, { on := 3, ground := Ground.chain }], guard := none }) rfl (fun K hK => ?_) (AllReadyH.cons (o := { dst := some 17, op := Op.alloc 29, type := 0, pos := "law.go:93", after := #[], guard := none }) rfl (fun K hK => ?_) (AllReadyH.nil))
          · go_simp
            go_wp2_with (go_at_call 13; refine (join_at HBF.out.jinv (inv_good HBF.out.gb) (inv_good HBF.out.ga) _).mono ?_; rintro e w28 ⟨rfl, hb⟩)
            have HS29 : Hid (St w C [⟨B1, 27, pgCells p⟩, ⟨B3, 29, chCells A⟩, ⟨B2, 29, chCells B⟩, ⟨B4, 27, pgCells P1⟩, ⟨B5, 27, pgCells P2⟩, ⟨B16, 27, pgCells p⟩, ⟨B17, 29, chCells J⟩, ⟨B18, 27, pgCells P2⟩] w28) := (HS28.out).calls hb
            refine hK.out _ _ (Obs.init (L := [⟨B1, 27, pgCells p⟩, ⟨B3, 29, chCells A⟩, ⟨B2, 29, chCells B⟩, ⟨B4, 27, pgCells P1⟩, ⟨B5, 27, pgCells P2⟩, ⟨B16, 27, pgCells p⟩, ⟨B17, 29, chCells J⟩, ⟨B18, 27, pgCells P2⟩]) (M := []) HS29.out.all) (fun hHeld => ?_)
            clear hK K hb
            try simp only [Act.put, List.setIfInBounds_toArray, List.set_cons_zero, List.set_cons_succ]
            refine wpAnyH_take (i := 5) (oi := { dst := some 74, op := Op.move (Operand.tmp 79), type := 40, pos := "law.go:93", after := #[{ on := 4, ground := Ground.data }], guard := none }) (v := ?q17v) rfl (by kernel_rfl) (by kernel_rfl) (by kernel_rfl) (fun _ _ _ h => h) (Or.inl ⟨by rfl, ?q17h⟩) hHeld ?q17r
            case q17h => (intro wq hSw; clear hSw; go_simp; try with_reducible rfl)
            try simp only [Act.put, List.setIfInBounds_toArray, List.set_cons_zero, List.set_cons_succ]
            refine wpAnyH_take (i := 6) (oi := { dst := some 80, op := Op.extract (Operand.tmp 74) 0, type := 29, pos := "law.go:93", after := #[{ on := 5, ground := Ground.data }], guard := none }) (v := ?q18v) rfl (by kernel_rfl) (by kernel_rfl) (by kernel_rfl) (fun _ _ _ h => h) (Or.inl ⟨by rfl, ?q18h⟩) hHeld ?q18r
            case q18h => (intro wq hSw; clear hSw; go_simp; try with_reducible rfl)
            try simp only [Act.put, List.setIfInBounds_toArray, List.set_cons_zero, List.set_cons_succ]
            refine wpAnyH_take (i := 7) (oi := { dst := some 81, op := Op.extract (Operand.tmp 74) 1, type := 39, pos := "law.go:93", after := #[{ on := 5, ground := Ground.data }, { on := 9, ground := Ground.gcOnly Departure.lateStores }], guard := none }) (v := ?q19v) rfl (by kernel_rfl) (by kernel_rfl) (by kernel_rfl) (fun _ _ _ h => h) (Or.inl ⟨by rfl, ?q19h⟩) hHeld ?q19r
            case q19h => (intro wq hSw; clear hSw; go_simp; try with_reducible rfl)
            try simp only [Act.put, List.setIfInBounds_toArray, List.set_cons_zero, List.set_cons_succ]
            refine wpAnyH_ready (rs := [8]) (by kernel_rfl) (by simp) ?_
            refine AllReadyH.cons (o := { dst := some 17, op := Op.alloc 29, type := 0, pos := "law.go:93", after := #[], guard := none }) rfl (fun K hK => ?_) (AllReadyH.nil)
            rw [if_pos (by rfl)]
            refine wp_alloc_ob 29 (chCells chNil) rfl alloc_ch ?_
            have HS30 : Hid (St w C [⟨B1, 27, pgCells p⟩, ⟨B3, 29, chCells A⟩, ⟨B2, 29, chCells B⟩, ⟨B4, 27, pgCells P1⟩, ⟨B5, 27, pgCells P2⟩, ⟨B16, 27, pgCells p⟩, ⟨B17, 29, chCells J⟩, ⟨B18, 27, pgCells P2⟩, ⟨w28.heap.size, 29, chCells chNil⟩] (w28.alloc (.cells (chCells chNil).toArray 29))) := (HS29.out).put 29 (chCells chNil)
            have HCx : Hid (C < w28.heap.size) := (HS29.out).codes.lt
            refine hK.out _ _ (Obs.init (L := [⟨B1, 27, pgCells p⟩, ⟨B3, 29, chCells A⟩, ⟨B2, 29, chCells B⟩, ⟨B4, 27, pgCells P1⟩, ⟨B5, 27, pgCells P2⟩, ⟨B16, 27, pgCells p⟩, ⟨B17, 29, chCells J⟩, ⟨B18, 27, pgCells P2⟩]) (M := [⟨w28.heap.size, 29, chCells chNil⟩]) HS30.out.all) (fun hHeld => ?_)
            clear hK K
            generalize w28.alloc (.cells (chCells chNil).toArray 29) = w29 at *
            generalize w28.heap.size = B19 at *
            have HCB19 : Hid (C < B19) := HCx.out
            clear HCx
            try simp only [Act.put, List.setIfInBounds_toArray, List.set_cons_zero, List.set_cons_succ]
            refine wpAnyH_ready (rs := [9]) (by kernel_rfl) (by simp) ?_
            refine AllReadyH.cons (o := { dst := none, op := Op.store 29 (Operand.tmp 17) (Operand.tmp 80), type := 0, pos := "law.go:93", after := #[{ on := 8, ground := Ground.data }, { on := 6, ground := Ground.data }, { on := 4, ground := Ground.chain }, { on := 0, ground := Ground.phase }, { on := 1, ground := Ground.phase }, { on := 2, ground := Ground.phase }, { on := 3, ground := Ground.phase }, { on := 4, ground := Ground.phase }, { on := 5, ground := Ground.phase }, { on := 6, ground := Ground.phase }, { on := 7, ground := Ground.textOnly Departure.lateStores }, { on := 8, ground := Ground.phase }], guard := none }) rfl (fun K hK => ?_) (AllReadyH.nil)
            rw [if_pos (by rfl)]
            refine wp_store_ob 29 (.tmp 17) (.tmp 80) B19 (chCells (invR J)) (chCells chNil) 29 rfl rfl rfl rfl ((HS30.out).get 8 rfl) (info_ch) (rfl) ((oneCell_ch _)) ?_
            have HS31 : Hid (St w C [⟨B1, 27, pgCells p⟩, ⟨B3, 29, chCells A⟩, ⟨B2, 29, chCells B⟩, ⟨B4, 27, pgCells P1⟩, ⟨B5, 27, pgCells P2⟩, ⟨B16, 27, pgCells p⟩, ⟨B17, 29, chCells J⟩, ⟨B18, 27, pgCells P2⟩, ⟨B19, 29, chCells (invR J)⟩] ((w29).setRow B19 (chCells (invR J)).toArray)) := (HS30.out).row 8 rfl HCB19.out (chCells (invR J))
            refine hK.out _ _ (Obs.init (L := [⟨B1, 27, pgCells p⟩, ⟨B3, 29, chCells A⟩, ⟨B2, 29, chCells B⟩, ⟨B4, 27, pgCells P1⟩, ⟨B5, 27, pgCells P2⟩, ⟨B16, 27, pgCells p⟩, ⟨B17, 29, chCells J⟩, ⟨B18, 27, pgCells P2⟩]) (M := [⟨B19, 29, chCells (invR J)⟩]) HS31.out.all) (fun hHeld => ?_)
            clear hK K
            generalize (w29).setRow B19 (chCells (invR J)).toArray = w30 at *
            try simp only [Act.put, List.setIfInBounds_toArray, List.set_cons_zero, List.set_cons_succ]
            refine wpAnyH_take (i := 10) (oi := { dst := some 18, op := Op.assign (Operand.tmp 81), type := 39, pos := "law.go:93", after := #[{ on := 7, ground := Ground.data }, { on := 9, ground := Ground.chain }, { on := 0, ground := Ground.phase }, { on := 1, ground := Ground.phase }, { on := 2, ground := Ground.phase }, { on := 3, ground := Ground.phase }, { on := 4, ground := Ground.phase }, { on := 5, ground := Ground.phase }, { on := 6, ground := Ground.phase }, { on := 7, ground := Ground.phase }, { on := 8, ground := Ground.phase }, { on := 9, ground := Ground.phase }], guard := none }) (v := ?q20v) rfl (by kernel_rfl) (by kernel_rfl) (by kernel_rfl) (fun _ _ _ h => h) (Or.inl ⟨by rfl, ?q20h⟩) hHeld ?q20r
            case q20h => (intro wq hSw; clear hSw; go_simp; try with_reducible rfl)
            try simp only [Act.put, List.setIfInBounds_toArray, List.set_cons_zero, List.set_cons_succ]
            refine wpAnyH_done (by kernel_rfl) ?_ _
            go_wp2_with fail
            go_meet
            exact ⟨B19, rfl, rfl, HCB19.out, HS31.out⟩
          · rw [if_pos (by rfl)]
            refine wp_alloc_ob 29 (chCells chNil) rfl alloc_ch ?_
            have HS29 : Hid (St w C [⟨B1, 27, pgCells p⟩, ⟨B3, 29, chCells A⟩, ⟨B2, 29, chCells B⟩, ⟨B4, 27, pgCells P1⟩, ⟨B5, 27, pgCells P2⟩, ⟨B16, 27, pgCells p⟩, ⟨B17, 29, chCells J⟩, ⟨B18, 27, pgCells P2⟩, ⟨w27.heap.size, 29, chCells chNil⟩] (w27.alloc (.cells (chCells chNil).toArray 29))) := (HS28.out).put 29 (chCells chNil)
            have HCx : Hid (C < w27.heap.size) := (HS28.out).codes.lt
            refine hK.out _ _ (Obs.init (L := [⟨B1, 27, pgCells p⟩, ⟨B3, 29, chCells A⟩, ⟨B2, 29, chCells B⟩, ⟨B4, 27, pgCells P1⟩, ⟨B5, 27, pgCells P2⟩, ⟨B16, 27, pgCells p⟩, ⟨B17, 29, chCells J⟩, ⟨B18, 27, pgCells P2⟩]) (M := [⟨w27.heap.size, 29, chCells chNil⟩]) HS29.out.all) (fun hHeld => ?_)
            clear hK K
            generalize w27.alloc (.cells (chCells chNil).toArray 29) = w28 at *
            generalize w27.heap.size = B19 at *
            have HCB19 : Hid (C < B19) := HCx.out
            clear HCx
            try simp only [Act.put, List.setIfInBounds_toArray, List.set_cons_zero, List.set_cons_succ]
            refine wpAnyH_ready (rs := [4]) (by kernel_rfl) (by simp) ?_
            refine AllReadyH.cons (o := { dst := some 79, op := Op.call { callee := Callee.value (Operand.func 13), args := #[Operand.tmp 76, Operand.tmp 78], argTypes := #[29, 29] }, type := 40, pos := "law.go:93", after := #[{ on := 1, ground := Ground.data }, { on := 3, ground := Ground.data }, { on := 3, ground := Ground.chain }], guard := none }) rfl (fun K hK => ?_) (AllReadyH.nil)
            go_simp
            go_wp2_with (go_at_call 13; refine (join_at HBF.out.jinv (inv_good HBF.out.gb) (inv_good HBF.out.ga) _).mono ?_; rintro e w29 ⟨rfl, hb⟩)
            have HS30 : Hid (St w C [⟨B1, 27, pgCells p⟩, ⟨B3, 29, chCells A⟩, ⟨B2, 29, chCells B⟩, ⟨B4, 27, pgCells P1⟩, ⟨B5, 27, pgCells P2⟩, ⟨B16, 27, pgCells p⟩, ⟨B17, 29, chCells J⟩, ⟨B18, 27, pgCells P2⟩, ⟨B19, 29, chCells chNil⟩] w29) := (HS29.out).calls hb
            refine hK.out _ _ (Obs.init (L := [⟨B1, 27, pgCells p⟩, ⟨B3, 29, chCells A⟩, ⟨B2, 29, chCells B⟩, ⟨B4, 27, pgCells P1⟩, ⟨B5, 27, pgCells P2⟩, ⟨B16, 27, pgCells p⟩, ⟨B17, 29, chCells J⟩, ⟨B18, 27, pgCells P2⟩]) (M := [⟨B19, 29, chCells chNil⟩]) HS30.out.all) (fun hHeld => ?_)
            clear hK K hb
            try simp only [Act.put, List.setIfInBounds_toArray, List.set_cons_zero, List.set_cons_succ]
            refine wpAnyH_take (i := 5) (oi := { dst := some 74, op := Op.move (Operand.tmp 79), type := 40, pos := "law.go:93", after := #[{ on := 4, ground := Ground.data }], guard := none }) (v := ?q21v) rfl (by kernel_rfl) (by kernel_rfl) (by kernel_rfl) (fun _ _ _ h => h) (Or.inl ⟨by rfl, ?q21h⟩) hHeld ?q21r
            case q21h => (intro wq hSw; clear hSw; go_simp; try with_reducible rfl)
            try simp only [Act.put, List.setIfInBounds_toArray, List.set_cons_zero, List.set_cons_succ]
            refine wpAnyH_take (i := 6) (oi := { dst := some 80, op := Op.extract (Operand.tmp 74) 0, type := 29, pos := "law.go:93", after := #[{ on := 5, ground := Ground.data }], guard := none }) (v := ?q22v) rfl (by kernel_rfl) (by kernel_rfl) (by kernel_rfl) (fun _ _ _ h => h) (Or.inl ⟨by rfl, ?q22h⟩) hHeld ?q22r
            case q22h => (intro wq hSw; clear hSw; go_simp; try with_reducible rfl)
            try simp only [Act.put, List.setIfInBounds_toArray, List.set_cons_zero, List.set_cons_succ]
            refine wpAnyH_take (i := 7) (oi := { dst := some 81, op := Op.extract (Operand.tmp 74) 1, type := 39, pos := "law.go:93", after := #[{ on := 5, ground := Ground.data }, { on := 9, ground := Ground.gcOnly Departure.lateStores }], guard := none }) (v := ?q23v) rfl (by kernel_rfl) (by kernel_rfl) (by kernel_rfl) (fun _ _ _ h => h) (Or.inl ⟨by rfl, ?q23h⟩) hHeld ?q23r
            case q23h => (intro wq hSw; clear hSw; go_simp; try with_reducible rfl)
            try simp only [Act.put, List.setIfInBounds_toArray, List.set_cons_zero, List.set_cons_succ]
            refine wpAnyH_ready (rs := [9]) (by kernel_rfl) (by simp) ?_
            refine AllReadyH.cons (o := { dst := none, op := Op.store 29 (Operand.tmp 17) (Operand.tmp 80), type := 0, pos := "law.go:93", after := #[{ on := 8, ground := Ground.data }, { on := 6, ground := Ground.data }, { on := 4, ground := Ground.chain }, { on := 0, ground := Ground.phase }, { on := 1, ground := Ground.phase }, { on := 2, ground := Ground.phase }, { on := 3, ground := Ground.phase }, { on := 4, ground := Ground.phase }, { on := 5, ground := Ground.phase }, { on := 6, ground := Ground.phase }, { on := 7, ground := Ground.textOnly Departure.lateStores }, { on := 8, ground := Ground.phase }], guard := none }) rfl (fun K hK => ?_) (AllReadyH.nil)
            rw [if_pos (by rfl)]
            refine wp_store_ob 29 (.tmp 17) (.tmp 80) B19 (chCells (invR J)) (chCells chNil) 29 rfl rfl rfl rfl ((HS30.out).get 8 rfl) (info_ch) (rfl) ((oneCell_ch _)) ?_
            have HS31 : Hid (St w C [⟨B1, 27, pgCells p⟩, ⟨B3, 29, chCells A⟩, ⟨B2, 29, chCells B⟩, ⟨B4, 27, pgCells P1⟩, ⟨B5, 27, pgCells P2⟩, ⟨B16, 27, pgCells p⟩, ⟨B17, 29, chCells J⟩, ⟨B18, 27, pgCells P2⟩, ⟨B19, 29, chCells (invR J)⟩] ((w29).setRow B19 (chCells (invR J)).toArray)) := (HS30.out).row 8 rfl HCB19.out (chCells (invR J))
            refine hK.out _ _ (Obs.init (L := [⟨B1, 27, pgCells p⟩, ⟨B3, 29, chCells A⟩, ⟨B2, 29, chCells B⟩, ⟨B4, 27, pgCells P1⟩, ⟨B5, 27, pgCells P2⟩, ⟨B16, 27, pgCells p⟩, ⟨B17, 29, chCells J⟩, ⟨B18, 27, pgCells P2⟩]) (M := [⟨B19, 29, chCells (invR J)⟩]) HS31.out.all) (fun hHeld => ?_)
            clear hK K
            generalize (w29).setRow B19 (chCells (invR J)).toArray = w30 at *
            try simp only [Act.put, List.setIfInBounds_toArray, List.set_cons_zero, List.set_cons_succ]
            refine wpAnyH_take (i := 10) (oi := { dst := some 18, op := Op.assign (Operand.tmp 81), type := 39, pos := "law.go:93", after := #[{ on := 7, ground := Ground.data }, { on := 9, ground := Ground.chain }, { on := 0, ground := Ground.phase }, { on := 1, ground := Ground.phase }, { on := 2, ground := Ground.phase }, { on := 3, ground := Ground.phase }, { on := 4, ground := Ground.phase }, { on := 5, ground := Ground.phase }, { on := 6, ground := Ground.phase }, { on := 7, ground := Ground.phase }, { on := 8, ground := Ground.phase }, { on := 9, ground := Ground.phase }], guard := none }) (v := ?q24v) rfl (by kernel_rfl) (by kernel_rfl) (by kernel_rfl) (fun _ _ _ h => h) (Or.inl ⟨by rfl, ?q24h⟩) hHeld ?q24r
            case q24h => (intro wq hSw; clear hSw; go_simp; try with_reducible rfl)
            try simp only [Act.put, List.setIfInBounds_toArray, List.set_cons_zero, List.set_cons_succ]
            refine wpAnyH_done (by kernel_rfl) ?_ _
            go_wp2_with fail
            go_meet
            exact ⟨B19, rfl, rfl, HCB19.out, HS31.out⟩
        · rw [if_pos (by rfl)]
          refine wp_alloc_ob 29 (chCells chNil) rfl alloc_ch ?_
          have HS28 : Hid (St w C [⟨B1, 27, pgCells p⟩, ⟨B3, 29, chCells A⟩, ⟨B2, 29, chCells B⟩, ⟨B4, 27, pgCells P1⟩, ⟨B5, 27, pgCells P2⟩, ⟨B16, 27, pgCells p⟩, ⟨B17, 29, chCells J⟩, ⟨B18, 27, pgCells P2⟩, ⟨w26.heap.size, 29, chCells chNil⟩] (w26.alloc (.cells (chCells chNil).toArray 29))) := (HS27.out).put 29 (chCells chNil)
          have HCx : Hid (C < w26.heap.size) := (HS27.out).codes.lt
          refine hK.out _ _ (Obs.init (L := [⟨B1, 27, pgCells p⟩, ⟨B3, 29, chCells A⟩, ⟨B2, 29, chCells B⟩, ⟨B4, 27, pgCells P1⟩, ⟨B5, 27, pgCells P2⟩, ⟨B16, 27, pgCells p⟩, ⟨B17, 29, chCells J⟩, ⟨B18, 27, pgCells P2⟩]) (M := [⟨w26.heap.size, 29, chCells chNil⟩]) HS28.out.all) (fun hHeld => ?_)
          clear hK K
          generalize w26.alloc (.cells (chCells chNil).toArray 29) = w27 at *
          generalize w26.heap.size = B19 at *
          have HCB19 : Hid (C < B19) := HCx.out
          clear HCx
          try simp only [Act.put, List.setIfInBounds_toArray, List.set_cons_zero, List.set_cons_succ]
          refine wpAnyH_ready (rs := [3]) (by kernel_rfl) (by simp) ?_
          refine AllReadyH.cons (o := { dst := some 78, op := Op.call { callee := Callee.value (Operand.func 17), args := #[Operand.tmp 77], argTypes := #[29] }, type := 29, pos := "law.go:93", after := #[{ on := 2, ground := Ground.data }, { on := 1, ground := Ground.chain }], guard := none }) rfl (fun K hK => ?_) (AllReadyH.nil)
          go_simp
          go_wp2_with (go_at_call 17; refine (inverse_any A _).mono ?_; rintro e w28 ⟨rfl, hb⟩)
          have HS29 : Hid (St w C [⟨B1, 27, pgCells p⟩, ⟨B3, 29, chCells A⟩, ⟨B2, 29, chCells B⟩, ⟨B4, 27, pgCells P1⟩, ⟨B5, 27, pgCells P2⟩, ⟨B16, 27, pgCells p⟩, ⟨B17, 29, chCells J⟩, ⟨B18, 27, pgCells P2⟩, ⟨B19, 29, chCells chNil⟩] w28) := (HS28.out).calls hb
          refine hK.out _ _ (Obs.init (L := [⟨B1, 27, pgCells p⟩, ⟨B3, 29, chCells A⟩, ⟨B2, 29, chCells B⟩, ⟨B4, 27, pgCells P1⟩, ⟨B5, 27, pgCells P2⟩, ⟨B16, 27, pgCells p⟩, ⟨B17, 29, chCells J⟩, ⟨B18, 27, pgCells P2⟩]) (M := [⟨B19, 29, chCells chNil⟩]) HS29.out.all) (fun hHeld => ?_)
          clear hK K hb
          try simp only [Act.put, List.setIfInBounds_toArray, List.set_cons_zero, List.set_cons_succ]
          refine wpAnyH_ready (rs := [4]) (by kernel_rfl) (by simp) ?_
          refine AllReadyH.cons (o := { dst := some 79, op := Op.call { callee := Callee.value (Operand.func 13), args := #[Operand.tmp 76, Operand.tmp 78], argTypes := #[29, 29] }, type := 40, pos := "law.go:93", after := #[{ on := 1, ground := Ground.data }, { on := 3, ground := Ground.data }, { on := 3, ground := Ground.chain }], guard := none }) rfl (fun K hK => ?_) (AllReadyH.nil)
          go_simp
          go_wp2_with (go_at_call 13; refine (join_at HBF.out.jinv (inv_good HBF.out.gb) (inv_good HBF.out.ga) _).mono ?_; rintro e w29 ⟨rfl, hb⟩)
          have HS30 : Hid (St w C [⟨B1, 27, pgCells p⟩, ⟨B3, 29, chCells A⟩, ⟨B2, 29, chCells B⟩, ⟨B4, 27, pgCells P1⟩, ⟨B5, 27, pgCells P2⟩, ⟨B16, 27, pgCells p⟩, ⟨B17, 29, chCells J⟩, ⟨B18, 27, pgCells P2⟩, ⟨B19, 29, chCells chNil⟩] w29) := (HS29.out).calls hb
          refine hK.out _ _ (Obs.init (L := [⟨B1, 27, pgCells p⟩, ⟨B3, 29, chCells A⟩, ⟨B2, 29, chCells B⟩, ⟨B4, 27, pgCells P1⟩, ⟨B5, 27, pgCells P2⟩, ⟨B16, 27, pgCells p⟩, ⟨B17, 29, chCells J⟩, ⟨B18, 27, pgCells P2⟩]) (M := [⟨B19, 29, chCells chNil⟩]) HS30.out.all) (fun hHeld => ?_)
          clear hK K hb
          try simp only [Act.put, List.setIfInBounds_toArray, List.set_cons_zero, List.set_cons_succ]
          refine wpAnyH_take (i := 5) (oi := { dst := some 74, op := Op.move (Operand.tmp 79), type := 40, pos := "law.go:93", after := #[{ on := 4, ground := Ground.data }], guard := none }) (v := ?q25v) rfl (by kernel_rfl) (by kernel_rfl) (by kernel_rfl) (fun _ _ _ h => h) (Or.inl ⟨by rfl, ?q25h⟩) hHeld ?q25r
          case q25h => (intro wq hSw; clear hSw; go_simp; try with_reducible rfl)
          try simp only [Act.put, List.setIfInBounds_toArray, List.set_cons_zero, List.set_cons_succ]
          refine wpAnyH_take (i := 6) (oi := { dst := some 80, op := Op.extract (Operand.tmp 74) 0, type := 29, pos := "law.go:93", after := #[{ on := 5, ground := Ground.data }], guard := none }) (v := ?q26v) rfl (by kernel_rfl) (by kernel_rfl) (by kernel_rfl) (fun _ _ _ h => h) (Or.inl ⟨by rfl, ?q26h⟩) hHeld ?q26r
          case q26h => (intro wq hSw; clear hSw; go_simp; try with_reducible rfl)
          try simp only [Act.put, List.setIfInBounds_toArray, List.set_cons_zero, List.set_cons_succ]
          refine wpAnyH_take (i := 7) (oi := { dst := some 81, op := Op.extract (Operand.tmp 74) 1, type := 39, pos := "law.go:93", after := #[{ on := 5, ground := Ground.data }, { on := 9, ground := Ground.gcOnly Departure.lateStores }], guard := none }) (v := ?q27v) rfl (by kernel_rfl) (by kernel_rfl) (by kernel_rfl) (fun _ _ _ h => h) (Or.inl ⟨by rfl, ?q27h⟩) hHeld ?q27r
          case q27h => (intro wq hSw; clear hSw; go_simp; try with_reducible rfl)
          try simp only [Act.put, List.setIfInBounds_toArray, List.set_cons_zero, List.set_cons_succ]
          refine wpAnyH_ready (rs := [9]) (by kernel_rfl) (by simp) ?_
          refine AllReadyH.cons (o := { dst := none, op := Op.store 29 (Operand.tmp 17) (Operand.tmp 80), type := 0, pos := "law.go:93", after := #[{ on := 8, ground := Ground.data }, { on := 6, ground := Ground.data }, { on := 4, ground := Ground.chain }, { on := 0, ground := Ground.phase }, { on := 1, ground := Ground.phase }, { on := 2, ground := Ground.phase }, { on := 3, ground := Ground.phase }, { on := 4, ground := Ground.phase }, { on := 5, ground := Ground.phase }, { on := 6, ground := Ground.phase }, { on := 7, ground := Ground.textOnly Departure.lateStores }, { on := 8, ground := Ground.phase }], guard := none }) rfl (fun K hK => ?_) (AllReadyH.nil)
          rw [if_pos (by rfl)]
          refine wp_store_ob 29 (.tmp 17) (.tmp 80) B19 (chCells (invR J)) (chCells chNil) 29 rfl rfl rfl rfl ((HS30.out).get 8 rfl) (info_ch) (rfl) ((oneCell_ch _)) ?_
          have HS31 : Hid (St w C [⟨B1, 27, pgCells p⟩, ⟨B3, 29, chCells A⟩, ⟨B2, 29, chCells B⟩, ⟨B4, 27, pgCells P1⟩, ⟨B5, 27, pgCells P2⟩, ⟨B16, 27, pgCells p⟩, ⟨B17, 29, chCells J⟩, ⟨B18, 27, pgCells P2⟩, ⟨B19, 29, chCells (invR J)⟩] ((w29).setRow B19 (chCells (invR J)).toArray)) := (HS30.out).row 8 rfl HCB19.out (chCells (invR J))
          refine hK.out _ _ (Obs.init (L := [⟨B1, 27, pgCells p⟩, ⟨B3, 29, chCells A⟩, ⟨B2, 29, chCells B⟩, ⟨B4, 27, pgCells P1⟩, ⟨B5, 27, pgCells P2⟩, ⟨B16, 27, pgCells p⟩, ⟨B17, 29, chCells J⟩, ⟨B18, 27, pgCells P2⟩]) (M := [⟨B19, 29, chCells (invR J)⟩]) HS31.out.all) (fun hHeld => ?_)
          clear hK K
          generalize (w29).setRow B19 (chCells (invR J)).toArray = w30 at *
          try simp only [Act.put, List.setIfInBounds_toArray, List.set_cons_zero, List.set_cons_succ]
          refine wpAnyH_take (i := 10) (oi := { dst := some 18, op := Op.assign (Operand.tmp 81), type := 39, pos := "law.go:93", after := #[{ on := 7, ground := Ground.data }, { on := 9, ground := Ground.chain }, { on := 0, ground := Ground.phase }, { on := 1, ground := Ground.phase }, { on := 2, ground := Ground.phase }, { on := 3, ground := Ground.phase }, { on := 4, ground := Ground.phase }, { on := 5, ground := Ground.phase }, { on := 6, ground := Ground.phase }, { on := 7, ground := Ground.phase }, { on := 8, ground := Ground.phase }, { on := 9, ground := Ground.phase }], guard := none }) (v := ?q28v) rfl (by kernel_rfl) (by kernel_rfl) (by kernel_rfl) (fun _ _ _ h => h) (Or.inl ⟨by rfl, ?q28h⟩) hHeld ?q28r
          case q28h => (intro wq hSw; clear hSw; go_simp; try with_reducible rfl)
          try simp only [Act.put, List.setIfInBounds_toArray, List.set_cons_zero, List.set_cons_succ]
          refine wpAnyH_done (by kernel_rfl) ?_ _
          go_wp2_with fail
          go_meet
          exact ⟨B19, rfl, rfl, HCB19.out, HS31.out⟩
      · rw [if_pos (by rfl)]
        refine wp_alloc_ob 29 (chCells chNil) rfl alloc_ch ?_
        have HS27 : Hid (St w C [⟨B1, 27, pgCells p⟩, ⟨B3, 29, chCells A⟩, ⟨B2, 29, chCells B⟩, ⟨B4, 27, pgCells P1⟩, ⟨B5, 27, pgCells P2⟩, ⟨B16, 27, pgCells p⟩, ⟨B17, 29, chCells J⟩, ⟨B18, 27, pgCells P2⟩, ⟨(w25.drew).heap.size, 29, chCells chNil⟩] ((w25.drew).alloc (.cells (chCells chNil).toArray 29))) := ((HS26.out).drew).put 29 (chCells chNil)
        have HCx : Hid (C < (w25.drew).heap.size) := ((HS26.out).drew).codes.lt
        refine hK.out _ _ (Obs.init (L := [⟨B1, 27, pgCells p⟩, ⟨B3, 29, chCells A⟩, ⟨B2, 29, chCells B⟩, ⟨B4, 27, pgCells P1⟩, ⟨B5, 27, pgCells P2⟩, ⟨B16, 27, pgCells p⟩, ⟨B17, 29, chCells J⟩, ⟨B18, 27, pgCells P2⟩]) (M := [⟨(w25.drew).heap.size, 29, chCells chNil⟩]) HS27.out.all) (fun hHeld => ?_)
        clear hK K
        generalize (w25.drew).alloc (.cells (chCells chNil).toArray 29) = w26 at *
        generalize (w25.drew).heap.size = B19 at *
        have HCB19 : Hid (C < B19) := HCx.out
        clear HCx
        try simp only [Act.put, List.setIfInBounds_toArray, List.set_cons_zero, List.set_cons_succ]
        refine wpAnyH_ready (rs := [1]) (by kernel_rfl) (by simp) ?_
        refine AllReadyH.cons (o := { dst := some 76, op := Op.call { callee := Callee.value (Operand.func 17), args := #[Operand.tmp 75], argTypes := #[29] }, type := 29, pos := "law.go:93", after := #[{ on := 0, ground := Ground.data }], guard := none }) rfl (fun K hK => ?_) (AllReadyH.nil)
        go_simp
        go_wp2_with (go_at_call 17; refine (inverse_any B _).mono ?_; rintro e w27 ⟨rfl, hb⟩)
        have HS28 : Hid (St w C [⟨B1, 27, pgCells p⟩, ⟨B3, 29, chCells A⟩, ⟨B2, 29, chCells B⟩, ⟨B4, 27, pgCells P1⟩, ⟨B5, 27, pgCells P2⟩, ⟨B16, 27, pgCells p⟩, ⟨B17, 29, chCells J⟩, ⟨B18, 27, pgCells P2⟩, ⟨B19, 29, chCells chNil⟩] w27) := (HS27.out).calls hb
        refine hK.out _ _ (Obs.init (L := [⟨B1, 27, pgCells p⟩, ⟨B3, 29, chCells A⟩, ⟨B2, 29, chCells B⟩, ⟨B4, 27, pgCells P1⟩, ⟨B5, 27, pgCells P2⟩, ⟨B16, 27, pgCells p⟩, ⟨B17, 29, chCells J⟩, ⟨B18, 27, pgCells P2⟩]) (M := [⟨B19, 29, chCells chNil⟩]) HS28.out.all) (fun hHeld => ?_)
        clear hK K hb
        try simp only [Act.put, List.setIfInBounds_toArray, List.set_cons_zero, List.set_cons_succ]
        refine wpAnyH_ready (rs := [3]) (by kernel_rfl) (by simp) ?_
        refine AllReadyH.cons (o := { dst := some 78, op := Op.call { callee := Callee.value (Operand.func 17), args := #[Operand.tmp 77], argTypes := #[29] }, type := 29, pos := "law.go:93", after := #[{ on := 2, ground := Ground.data }, { on := 1, ground := Ground.chain }], guard := none }) rfl (fun K hK => ?_) (AllReadyH.nil)
        go_simp
        go_wp2_with (go_at_call 17; refine (inverse_any A _).mono ?_; rintro e w28 ⟨rfl, hb⟩)
        have HS29 : Hid (St w C [⟨B1, 27, pgCells p⟩, ⟨B3, 29, chCells A⟩, ⟨B2, 29, chCells B⟩, ⟨B4, 27, pgCells P1⟩, ⟨B5, 27, pgCells P2⟩, ⟨B16, 27, pgCells p⟩, ⟨B17, 29, chCells J⟩, ⟨B18, 27, pgCells P2⟩, ⟨B19, 29, chCells chNil⟩] w28) := (HS28.out).calls hb
        refine hK.out _ _ (Obs.init (L := [⟨B1, 27, pgCells p⟩, ⟨B3, 29, chCells A⟩, ⟨B2, 29, chCells B⟩, ⟨B4, 27, pgCells P1⟩, ⟨B5, 27, pgCells P2⟩, ⟨B16, 27, pgCells p⟩, ⟨B17, 29, chCells J⟩, ⟨B18, 27, pgCells P2⟩]) (M := [⟨B19, 29, chCells chNil⟩]) HS29.out.all) (fun hHeld => ?_)
        clear hK K hb
        try simp only [Act.put, List.setIfInBounds_toArray, List.set_cons_zero, List.set_cons_succ]
        refine wpAnyH_ready (rs := [4]) (by kernel_rfl) (by simp) ?_
        refine AllReadyH.cons (o := { dst := some 79, op := Op.call { callee := Callee.value (Operand.func 13), args := #[Operand.tmp 76, Operand.tmp 78], argTypes := #[29, 29] }, type := 40, pos := "law.go:93", after := #[{ on := 1, ground := Ground.data }, { on := 3, ground := Ground.data }, { on := 3, ground := Ground.chain }], guard := none }) rfl (fun K hK => ?_) (AllReadyH.nil)
        go_simp
        go_wp2_with (go_at_call 13; refine (join_at HBF.out.jinv (inv_good HBF.out.gb) (inv_good HBF.out.ga) _).mono ?_; rintro e w29 ⟨rfl, hb⟩)
        have HS30 : Hid (St w C [⟨B1, 27, pgCells p⟩, ⟨B3, 29, chCells A⟩, ⟨B2, 29, chCells B⟩, ⟨B4, 27, pgCells P1⟩, ⟨B5, 27, pgCells P2⟩, ⟨B16, 27, pgCells p⟩, ⟨B17, 29, chCells J⟩, ⟨B18, 27, pgCells P2⟩, ⟨B19, 29, chCells chNil⟩] w29) := (HS29.out).calls hb
        refine hK.out _ _ (Obs.init (L := [⟨B1, 27, pgCells p⟩, ⟨B3, 29, chCells A⟩, ⟨B2, 29, chCells B⟩, ⟨B4, 27, pgCells P1⟩, ⟨B5, 27, pgCells P2⟩, ⟨B16, 27, pgCells p⟩, ⟨B17, 29, chCells J⟩, ⟨B18, 27, pgCells P2⟩]) (M := [⟨B19, 29, chCells chNil⟩]) HS30.out.all) (fun hHeld => ?_)
        clear hK K hb
        try simp only [Act.put, List.setIfInBounds_toArray, List.set_cons_zero, List.set_cons_succ]
        refine wpAnyH_take (i := 5) (oi := { dst := some 74, op := Op.move (Operand.tmp 79), type := 40, pos := "law.go:93", after := #[{ on := 4, ground := Ground.data }], guard := none }) (v := ?q29v) rfl (by kernel_rfl) (by kernel_rfl) (by kernel_rfl) (fun _ _ _ h => h) (Or.inl ⟨by rfl, ?q29h⟩) hHeld ?q29r
        case q29h => (intro wq hSw; clear hSw; go_simp; try with_reducible rfl)
        try simp only [Act.put, List.setIfInBounds_toArray, List.set_cons_zero, List.set_cons_succ]
        refine wpAnyH_take (i := 6) (oi := { dst := some 80, op := Op.extract (Operand.tmp 74) 0, type := 29, pos := "law.go:93", after := #[{ on := 5, ground := Ground.data }], guard := none }) (v := ?q30v) rfl (by kernel_rfl) (by kernel_rfl) (by kernel_rfl) (fun _ _ _ h => h) (Or.inl ⟨by rfl, ?q30h⟩) hHeld ?q30r
        case q30h => (intro wq hSw; clear hSw; go_simp; try with_reducible rfl)
        try simp only [Act.put, List.setIfInBounds_toArray, List.set_cons_zero, List.set_cons_succ]
        refine wpAnyH_take (i := 7) (oi := { dst := some 81, op := Op.extract (Operand.tmp 74) 1, type := 39, pos := "law.go:93", after := #[{ on := 5, ground := Ground.data }, { on := 9, ground := Ground.gcOnly Departure.lateStores }], guard := none }) (v := ?q31v) rfl (by kernel_rfl) (by kernel_rfl) (by kernel_rfl) (fun _ _ _ h => h) (Or.inl ⟨by rfl, ?q31h⟩) hHeld ?q31r
        case q31h => (intro wq hSw; clear hSw; go_simp; try with_reducible rfl)
        try simp only [Act.put, List.setIfInBounds_toArray, List.set_cons_zero, List.set_cons_succ]
        refine wpAnyH_ready (rs := [9]) (by kernel_rfl) (by simp) ?_
        refine AllReadyH.cons (o := { dst := none, op := Op.store 29 (Operand.tmp 17) (Operand.tmp 80), type := 0, pos := "law.go:93", after := #[{ on := 8, ground := Ground.data }, { on := 6, ground := Ground.data }, { on := 4, ground := Ground.chain }, { on := 0, ground := Ground.phase }, { on := 1, ground := Ground.phase }, { on := 2, ground := Ground.phase }, { on := 3, ground := Ground.phase }, { on := 4, ground := Ground.phase }, { on := 5, ground := Ground.phase }, { on := 6, ground := Ground.phase }, { on := 7, ground := Ground.textOnly Departure.lateStores }, { on := 8, ground := Ground.phase }], guard := none }) rfl (fun K hK => ?_) (AllReadyH.nil)
        rw [if_pos (by rfl)]
        refine wp_store_ob 29 (.tmp 17) (.tmp 80) B19 (chCells (invR J)) (chCells chNil) 29 rfl rfl rfl rfl ((HS30.out).get 8 rfl) (info_ch) (rfl) ((oneCell_ch _)) ?_
        have HS31 : Hid (St w C [⟨B1, 27, pgCells p⟩, ⟨B3, 29, chCells A⟩, ⟨B2, 29, chCells B⟩, ⟨B4, 27, pgCells P1⟩, ⟨B5, 27, pgCells P2⟩, ⟨B16, 27, pgCells p⟩, ⟨B17, 29, chCells J⟩, ⟨B18, 27, pgCells P2⟩, ⟨B19, 29, chCells (invR J)⟩] ((w29).setRow B19 (chCells (invR J)).toArray)) := (HS30.out).row 8 rfl HCB19.out (chCells (invR J))
        refine hK.out _ _ (Obs.init (L := [⟨B1, 27, pgCells p⟩, ⟨B3, 29, chCells A⟩, ⟨B2, 29, chCells B⟩, ⟨B4, 27, pgCells P1⟩, ⟨B5, 27, pgCells P2⟩, ⟨B16, 27, pgCells p⟩, ⟨B17, 29, chCells J⟩, ⟨B18, 27, pgCells P2⟩]) (M := [⟨B19, 29, chCells (invR J)⟩]) HS31.out.all) (fun hHeld => ?_)
        clear hK K
        generalize (w29).setRow B19 (chCells (invR J)).toArray = w30 at *
        try simp only [Act.put, List.setIfInBounds_toArray, List.set_cons_zero, List.set_cons_succ]
        refine wpAnyH_take (i := 10) (oi := { dst := some 18, op := Op.assign (Operand.tmp 81), type := 39, pos := "law.go:93", after := #[{ on := 7, ground := Ground.data }, { on := 9, ground := Ground.chain }, { on := 0, ground := Ground.phase }, { on := 1, ground := Ground.phase }, { on := 2, ground := Ground.phase }, { on := 3, ground := Ground.phase }, { on := 4, ground := Ground.phase }, { on := 5, ground := Ground.phase }, { on := 6, ground := Ground.phase }, { on := 7, ground := Ground.phase }, { on := 8, ground := Ground.phase }, { on := 9, ground := Ground.phase }], guard := none }) (v := ?q32v) rfl (by kernel_rfl) (by kernel_rfl) (by kernel_rfl) (fun _ _ _ h => h) (Or.inl ⟨by rfl, ?q32h⟩) hHeld ?q32r
        case q32h => (intro wq hSw; clear hSw; go_simp; try with_reducible rfl)
        try simp only [Act.put, List.setIfInBounds_toArray, List.set_cons_zero, List.set_cons_succ]
        refine wpAnyH_done (by kernel_rfl) ?_ _
        go_wp2_with fail
        go_meet
        exact ⟨B19, rfl, rfl, HCB19.out, HS31.out⟩
    case rest =>
      obtain ⟨B29, rfl, rfl, hC, hs⟩ := hcut
      have HS41 : Hid (St w C [⟨B1, 27, pgCells p⟩, ⟨B3, 29, chCells A⟩, ⟨B2, 29, chCells B⟩, ⟨B4, 27, pgCells P1⟩, ⟨B5, 27, pgCells P2⟩, ⟨B16, 27, pgCells p⟩, ⟨B17, 29, chCells J⟩, ⟨B18, 27, pgCells P2⟩, ⟨B29, 29, chCells (invR J)⟩] wc) := hs
      have HCB29 : Hid (C < B29) := hC
      clear hs hC HS26
      generalize wc = w36 at *
      go_upto_region 14 with (fail)
      have e1 : ∀ W, Sem.run Try.prog (binOp .eql 27 (.agg (pgCells p).toArray) (.agg (pgCells p).toArray)) W = .ok (.bool true) W := fun W => by
        have := run_eql (equal_pg p p HBF.out.gp HBF.out.gp) W
        rw [sameV_self] at this
        exact this
      have e2 : ∀ W, Sem.run Try.prog (binOp .eql 27 (.agg (pgCells P2).toArray) (.agg (pgCells P2).toArray)) W = .ok (.bool true) W := fun W => by
        have := run_eql (equal_pg P2 P2 HBF.out.g2 HBF.out.g2) W
        rw [sameV_self] at this
        exact this
      have e3 : ∀ W, Sem.run Try.prog (binOp .eql 29 (.agg (chCells (invR J)).toArray) (.agg (chCells (invR J)).toArray)) W = .ok (.bool true) W := fun W => by
        have := run_eql (equal_ch (invR J) (invR J) (inv_good HBF.out.gj) (inv_good HBF.out.gj)) W
        rw [sameV_self] at this
        exact this
      refine wp_region_held_drew (S := fun w' => Obs [⟨B1, 27, pgCells p⟩, ⟨B3, 29, chCells A⟩, ⟨B2, 29, chCells B⟩, ⟨B4, 27, pgCells P1⟩, ⟨B5, 27, pgCells P2⟩, ⟨B16, 27, pgCells p⟩, ⟨B17, 29, chCells J⟩, ⟨B18, 27, pgCells P2⟩, ⟨B29, 29, chCells (invR J)⟩] w') (by kernel_rfl) ?_ (fun hHeld => ?_)
      · exact (HS41.out).all
      refine wpAnyH_take (i := 0) (oi := { dst := some 82, op := Op.move (Operand.tmp 8), type := 39, pos := "law.go:94", after := #[], guard := none }) (v := ?q33v) rfl (by kernel_rfl) (by kernel_rfl) (by kernel_rfl) (fun _ _ _ h => h) (Or.inl ⟨by rfl, ?q33h⟩) hHeld ?q33r
      case q33h => (intro wq hSw; clear hSw; go_simp; try with_reducible rfl)
      try simp only [Act.put, List.setIfInBounds_toArray, List.set_cons_zero, List.set_cons_succ]
      refine wpAnyH_take (i := 1) (oi := { dst := some 83, op := Op.binOp BinOp.eql 39 (Operand.tmp 82) (Operand.const (Value.int IntKind.i64 0)) 39, type := 4, pos := "law.go:94", after := #[{ on := 0, ground := Ground.data }], guard := none }) (v := ?q34v) rfl (by kernel_rfl) (by kernel_rfl) (by kernel_rfl) (fun _ _ _ h => h) (Or.inl ⟨by rfl, ?q34h⟩) hHeld ?q34r
      case q34h => (intro wq hSw; clear hSw; go_simp; try with_reducible rfl)
      try simp only [Act.put, List.setIfInBounds_toArray, List.set_cons_zero, List.set_cons_succ]
      refine wpAnyH_take (i := 2) (oi := { dst := some 84, op := Op.move (Operand.tmp 83), type := 4, pos := "law.go:94", after := #[{ on := 1, ground := Ground.data }], guard := none }) (v := ?q35v) rfl (by kernel_rfl) (by kernel_rfl) (by kernel_rfl) (fun _ _ _ h => h) (Or.inl ⟨by rfl, ?q35h⟩) hHeld ?q35r
      case q35h => (intro wq hSw; clear hSw; go_simp; try with_reducible rfl)
      try simp only [Act.put, List.setIfInBounds_toArray, List.set_cons_zero, List.set_cons_succ]
      refine wpAnyH_take (i := 3) (oi := { dst := some 85, op := Op.move (Operand.tmp 10), type := 39, pos := "law.go:94", after := #[{ on := 2, ground := Ground.guard }], guard := some (2, true) }) (v := ?q36v) rfl (by kernel_rfl) (by kernel_rfl) (by kernel_rfl) (fun _ _ _ h => h) (Or.inl ⟨by rfl, ?q36h⟩) hHeld ?q36r
      case q36h => (intro wq hSw; clear hSw; go_simp; try with_reducible rfl)
      try simp only [Act.put, List.setIfInBounds_toArray, List.set_cons_zero, List.set_cons_succ]
      refine wpAnyH_take (i := 4) (oi := { dst := some 86, op := Op.binOp BinOp.eql 39 (Operand.tmp 85) (Operand.const (Value.int IntKind.i64 0)) 39, type := 4, pos := "law.go:94", after := #[{ on := 3, ground := Ground.data }, { on := 2, ground := Ground.guard }], guard := some (2, true) }) (v := ?q37v) rfl (by kernel_rfl) (by kernel_rfl) (by kernel_rfl) (fun _ _ _ h => h) (Or.inl ⟨by rfl, ?q37h⟩) hHeld ?q37r
      case q37h => (intro wq hSw; clear hSw; go_simp; try with_reducible rfl)
      try simp only [Act.put, List.setIfInBounds_toArray, List.set_cons_zero, List.set_cons_succ]
      refine wpAnyH_take (i := 5) (oi := { dst := some 87, op := Op.pick (Operand.tmp 84) (Operand.tmp 86) (Operand.const (Value.bool false)), type := 4, pos := "law.go:94", after := #[{ on := 2, ground := Ground.data }, { on := 4, ground := Ground.data }], guard := none }) (v := ?q38v) rfl (by kernel_rfl) (by kernel_rfl) (by kernel_rfl) (fun _ _ _ h => h) (Or.inl ⟨by rfl, ?q38h⟩) hHeld ?q38r
      case q38h => (intro wq hSw; clear hSw; go_simp; try with_reducible rfl)
      try simp only [Act.put, List.setIfInBounds_toArray, List.set_cons_zero, List.set_cons_succ]
      refine wpAnyH_take (i := 6) (oi := { dst := some 88, op := Op.move (Operand.tmp 87), type := 4, pos := "law.go:94", after := #[{ on := 5, ground := Ground.data }, { on := 2, ground := Ground.chain }], guard := none }) (v := ?q39v) rfl (by kernel_rfl) (by kernel_rfl) (by kernel_rfl) (fun _ _ _ h => h) (Or.inl ⟨by rfl, ?q39h⟩) hHeld ?q39r
      case q39h => (intro wq hSw; clear hSw; go_simp; try with_reducible rfl)
      try simp only [Act.put, List.setIfInBounds_toArray, List.set_cons_zero, List.set_cons_succ]
      refine wpAnyH_take (i := 7) (oi := { dst := some 89, op := Op.move (Operand.tmp 12), type := 39, pos := "law.go:94", after := #[{ on := 6, ground := Ground.guard }], guard := some (6, true) }) (v := ?q40v) rfl (by kernel_rfl) (by kernel_rfl) (by kernel_rfl) (fun _ _ _ h => h) (Or.inl ⟨by rfl, ?q40h⟩) hHeld ?q40r
      case q40h => (intro wq hSw; clear hSw; go_simp; try with_reducible rfl)
      try simp only [Act.put, List.setIfInBounds_toArray, List.set_cons_zero, List.set_cons_succ]
      refine wpAnyH_take (i := 8) (oi := { dst := some 90, op := Op.binOp BinOp.eql 39 (Operand.tmp 89) (Operand.const (Value.int IntKind.i64 0)) 39, type := 4, pos := "law.go:94", after := #[{ on := 7, ground := Ground.data }, { on := 6, ground := Ground.guard }], guard := some (6, true) }) (v := ?q41v) rfl (by kernel_rfl) (by kernel_rfl) (by kernel_rfl) (fun _ _ _ h => h) (Or.inl ⟨by rfl, ?q41h⟩) hHeld ?q41r
      case q41h => (intro wq hSw; clear hSw; go_simp; try with_reducible rfl)
      try simp only [Act.put, List.setIfInBounds_toArray, List.set_cons_zero, List.set_cons_succ]
      refine wpAnyH_take (i := 9) (oi := { dst := some 91, op := Op.pick (Operand.tmp 88) (Operand.tmp 90) (Operand.const (Value.bool false)), type := 4, pos := "law.go:94", after := #[{ on := 6, ground := Ground.data }, { on := 8, ground := Ground.data }], guard := none }) (v := ?q42v) rfl (by kernel_rfl) (by kernel_rfl) (by kernel_rfl) (fun _ _ _ h => h) (Or.inl ⟨by rfl, ?q42h⟩) hHeld ?q42r
      case q42h => (intro wq hSw; clear hSw; go_simp; try with_reducible rfl)
      try simp only [Act.put, List.setIfInBounds_toArray, List.set_cons_zero, List.set_cons_succ]
      refine wpAnyH_take (i := 10) (oi := { dst := some 92, op := Op.move (Operand.tmp 91), type := 4, pos := "law.go:94", after := #[{ on := 9, ground := Ground.data }, { on := 6, ground := Ground.chain }], guard := none }) (v := ?q43v) rfl (by kernel_rfl) (by kernel_rfl) (by kernel_rfl) (fun _ _ _ h => h) (Or.inl ⟨by rfl, ?q43h⟩) hHeld ?q43r
      case q43h => (intro wq hSw; clear hSw; go_simp; try with_reducible rfl)
      try simp only [Act.put, List.setIfInBounds_toArray, List.set_cons_zero, List.set_cons_succ]
      refine wpAnyH_take (i := 11) (oi := { dst := some 93, op := Op.move (Operand.tmp 14), type := 39, pos := "law.go:94", after := #[{ on := 10, ground := Ground.guard }], guard := some (10, true) }) (v := ?q44v) rfl (by kernel_rfl) (by kernel_rfl) (by kernel_rfl) (fun _ _ _ h => h) (Or.inl ⟨by rfl, ?q44h⟩) hHeld ?q44r
      case q44h => (intro wq hSw; clear hSw; go_simp; try with_reducible rfl)
      try simp only [Act.put, List.setIfInBounds_toArray, List.set_cons_zero, List.set_cons_succ]
      refine wpAnyH_take (i := 12) (oi := { dst := some 94, op := Op.binOp BinOp.eql 39 (Operand.tmp 93) (Operand.const (Value.int IntKind.i64 0)) 39, type := 4, pos := "law.go:94", after := #[{ on := 11, ground := Ground.data }, { on := 10, ground := Ground.guard }], guard := some (10, true) }) (v := ?q45v) rfl (by kernel_rfl) (by kernel_rfl) (by kernel_rfl) (fun _ _ _ h => h) (Or.inl ⟨by rfl, ?q45h⟩) hHeld ?q45r
      case q45h => (intro wq hSw; clear hSw; go_simp; try with_reducible rfl)
      try simp only [Act.put, List.setIfInBounds_toArray, List.set_cons_zero, List.set_cons_succ]
      refine wpAnyH_take (i := 13) (oi := { dst := some 95, op := Op.pick (Operand.tmp 92) (Operand.tmp 94) (Operand.const (Value.bool false)), type := 4, pos := "law.go:94", after := #[{ on := 10, ground := Ground.data }, { on := 12, ground := Ground.data }], guard := none }) (v := ?q46v) rfl (by kernel_rfl) (by kernel_rfl) (by kernel_rfl) (fun _ _ _ h => h) (Or.inl ⟨by rfl, ?q46h⟩) hHeld ?q46r
      case q46h => (intro wq hSw; clear hSw; go_simp; try with_reducible rfl)
      try simp only [Act.put, List.setIfInBounds_toArray, List.set_cons_zero, List.set_cons_succ]
      refine wpAnyH_take (i := 14) (oi := { dst := some 96, op := Op.move (Operand.tmp 95), type := 4, pos := "law.go:94", after := #[{ on := 13, ground := Ground.data }, { on := 10, ground := Ground.chain }], guard := none }) (v := ?q47v) rfl (by kernel_rfl) (by kernel_rfl) (by kernel_rfl) (fun _ _ _ h => h) (Or.inl ⟨by rfl, ?q47h⟩) hHeld ?q47r
      case q47h => (intro wq hSw; clear hSw; go_simp; try with_reducible rfl)
      try simp only [Act.put, List.setIfInBounds_toArray, List.set_cons_zero, List.set_cons_succ]
      refine wpAnyH_take (i := 15) (oi := { dst := some 97, op := Op.move (Operand.tmp 16), type := 39, pos := "law.go:94", after := #[{ on := 14, ground := Ground.guard }], guard := some (14, true) }) (v := ?q48v) rfl (by kernel_rfl) (by kernel_rfl) (by kernel_rfl) (fun _ _ _ h => h) (Or.inl ⟨by rfl, ?q48h⟩) hHeld ?q48r
      case q48h => (intro wq hSw; clear hSw; go_simp; try with_reducible rfl)
      try simp only [Act.put, List.setIfInBounds_toArray, List.set_cons_zero, List.set_cons_succ]
      refine wpAnyH_take (i := 16) (oi := { dst := some 98, op := Op.binOp BinOp.eql 39 (Operand.tmp 97) (Operand.const (Value.int IntKind.i64 0)) 39, type := 4, pos := "law.go:94", after := #[{ on := 15, ground := Ground.data }, { on := 14, ground := Ground.guard }], guard := some (14, true) }) (v := ?q49v) rfl (by kernel_rfl) (by kernel_rfl) (by kernel_rfl) (fun _ _ _ h => h) (Or.inl ⟨by rfl, ?q49h⟩) hHeld ?q49r
      case q49h => (intro wq hSw; clear hSw; go_simp; try with_reducible rfl)
      try simp only [Act.put, List.setIfInBounds_toArray, List.set_cons_zero, List.set_cons_succ]
      refine wpAnyH_take (i := 17) (oi := { dst := some 99, op := Op.pick (Operand.tmp 96) (Operand.tmp 98) (Operand.const (Value.bool false)), type := 4, pos := "law.go:94", after := #[{ on := 14, ground := Ground.data }, { on := 16, ground := Ground.data }], guard := none }) (v := ?q50v) rfl (by kernel_rfl) (by kernel_rfl) (by kernel_rfl) (fun _ _ _ h => h) (Or.inl ⟨by rfl, ?q50h⟩) hHeld ?q50r
      case q50h => (intro wq hSw; clear hSw; go_simp; try with_reducible rfl)
      try simp only [Act.put, List.setIfInBounds_toArray, List.set_cons_zero, List.set_cons_succ]
      refine wpAnyH_take (i := 18) (oi := { dst := some 100, op := Op.move (Operand.tmp 99), type := 4, pos := "law.go:94", after := #[{ on := 17, ground := Ground.data }, { on := 14, ground := Ground.chain }], guard := none }) (v := ?q51v) rfl (by kernel_rfl) (by kernel_rfl) (by kernel_rfl) (fun _ _ _ h => h) (Or.inl ⟨by rfl, ?q51h⟩) hHeld ?q51r
      case q51h => (intro wq hSw; clear hSw; go_simp; try with_reducible rfl)
      try simp only [Act.put, List.setIfInBounds_toArray, List.set_cons_zero, List.set_cons_succ]
      refine wpAnyH_take (i := 19) (oi := { dst := some 101, op := Op.move (Operand.tmp 18), type := 39, pos := "law.go:94", after := #[{ on := 18, ground := Ground.guard }], guard := some (18, true) }) (v := ?q52v) rfl (by kernel_rfl) (by kernel_rfl) (by kernel_rfl) (fun _ _ _ h => h) (Or.inl ⟨by rfl, ?q52h⟩) hHeld ?q52r
      case q52h => (intro wq hSw; clear hSw; go_simp; try with_reducible rfl)
      try simp only [Act.put, List.setIfInBounds_toArray, List.set_cons_zero, List.set_cons_succ]
      refine wpAnyH_take (i := 20) (oi := { dst := some 102, op := Op.binOp BinOp.eql 39 (Operand.tmp 101) (Operand.const (Value.int IntKind.i64 0)) 39, type := 4, pos := "law.go:94", after := #[{ on := 19, ground := Ground.data }, { on := 18, ground := Ground.guard }], guard := some (18, true) }) (v := ?q53v) rfl (by kernel_rfl) (by kernel_rfl) (by kernel_rfl) (fun _ _ _ h => h) (Or.inl ⟨by rfl, ?q53h⟩) hHeld ?q53r
      case q53h => (intro wq hSw; clear hSw; go_simp; try with_reducible rfl)
      try simp only [Act.put, List.setIfInBounds_toArray, List.set_cons_zero, List.set_cons_succ]
      refine wpAnyH_take (i := 21) (oi := { dst := some 103, op := Op.pick (Operand.tmp 100) (Operand.tmp 102) (Operand.const (Value.bool false)), type := 4, pos := "law.go:94", after := #[{ on := 18, ground := Ground.data }, { on := 20, ground := Ground.data }], guard := none }) (v := ?q54v) rfl (by kernel_rfl) (by kernel_rfl) (by kernel_rfl) (fun _ _ _ h => h) (Or.inl ⟨by rfl, ?q54h⟩) hHeld ?q54r
      case q54h => (intro wq hSw; clear hSw; go_simp; try with_reducible rfl)
      try simp only [Act.put, List.setIfInBounds_toArray, List.set_cons_zero, List.set_cons_succ]
      refine wpAnyH_take (i := 22) (oi := { dst := some 104, op := Op.move (Operand.tmp 103), type := 4, pos := "law.go:94", after := #[{ on := 21, ground := Ground.data }, { on := 18, ground := Ground.chain }], guard := none }) (v := ?q55v) rfl (by kernel_rfl) (by kernel_rfl) (by kernel_rfl) (fun _ _ _ h => h) (Or.inl ⟨by rfl, ?q55h⟩) hHeld ?q55r
      case q55h => (intro wq hSw; clear hSw; go_simp; try with_reducible rfl)
      try simp only [Act.put, List.setIfInBounds_toArray, List.set_cons_zero, List.set_cons_succ]
      refine wpAnyH_take (i := 23) (oi := { dst := some 105, op := Op.load 27 (Operand.tmp 11), type := 27, pos := "law.go:94", after := #[{ on := 22, ground := Ground.guard }], guard := some (22, true) }) rfl (by kernel_rfl) (by kernel_rfl) (by kernel_rfl) (fun _ _ _ h => h) (yieldsIf_load_mid (by rfl) 27 (.tmp 11) rfl B16 0 rfl (pgCells p) _ (fun _ h => h.whole 5 rfl) HUP.out rfl ((info_pgc HPl.out))) hHeld ?_
      try simp only [Act.put, List.setIfInBounds_toArray, List.set_cons_zero, List.set_cons_succ]
      refine wpAnyH_take (i := 24) (oi := { dst := some 106, op := Op.load 27 (Operand.tmp 4), type := 27, pos := "law.go:94", after := #[{ on := 22, ground := Ground.guard }], guard := some (22, true) }) rfl (by kernel_rfl) (by kernel_rfl) (by kernel_rfl) (fun _ _ _ h => h) (yieldsIf_load_mid (by rfl) 27 (.tmp 4) rfl B1 0 rfl (pgCells p) _ (fun _ h => h.whole 0 rfl) HUP.out rfl ((info_pgc HPl.out))) hHeld ?_
      try simp only [Act.put, List.setIfInBounds_toArray, List.set_cons_zero, List.set_cons_succ]
      refine wpAnyH_take (i := 25) (oi := { dst := some 107, op := Op.binOp BinOp.eql 27 (Operand.tmp 105) (Operand.tmp 106) 27, type := 4, pos := "law.go:94", after := #[{ on := 23, ground := Ground.data }, { on := 24, ground := Ground.data }, { on := 22, ground := Ground.guard }], guard := some (22, true) }) (v := ?q58v) rfl (by kernel_rfl) (by kernel_rfl) (by kernel_rfl) (fun _ _ _ h => h) (Or.inl ⟨by rfl, ?q58h⟩) hHeld ?q58r
      case q58h => (intro wq hSw; clear hSw; go_simp; try with_reducible rfl)
      try simp only [Act.put, List.setIfInBounds_toArray, List.set_cons_zero, List.set_cons_succ]
      refine wpAnyH_take (i := 26) (oi := { dst := some 108, op := Op.pick (Operand.tmp 104) (Operand.tmp 107) (Operand.const (Value.bool false)), type := 4, pos := "law.go:94", after := #[{ on := 22, ground := Ground.data }, { on := 25, ground := Ground.data }], guard := none }) (v := ?q59v) rfl (by kernel_rfl) (by kernel_rfl) (by kernel_rfl) (fun _ _ _ h => h) (Or.inl ⟨by rfl, ?q59h⟩) hHeld ?q59r
      case q59h => (intro wq hSw; clear hSw; go_simp; try with_reducible rfl)
      try simp only [Act.put, List.setIfInBounds_toArray, List.set_cons_zero, List.set_cons_succ]
      refine wpAnyH_take (i := 27) (oi := { dst := some 109, op := Op.move (Operand.tmp 108), type := 4, pos := "law.go:94", after := #[{ on := 26, ground := Ground.data }, { on := 22, ground := Ground.chain }], guard := none }) (v := ?q60v) rfl (by kernel_rfl) (by kernel_rfl) (by kernel_rfl) (fun _ _ _ h => h) (Or.inl ⟨by rfl, ?q60h⟩) hHeld ?q60r
      case q60h => (intro wq hSw; clear hSw; go_simp; try with_reducible rfl)
      try simp only [Act.put, List.setIfInBounds_toArray, List.set_cons_zero, List.set_cons_succ]
      refine wpAnyH_take (i := 28) (oi := { dst := some 110, op := Op.load 27 (Operand.tmp 15), type := 27, pos := "law.go:94", after := #[{ on := 27, ground := Ground.guard }], guard := some (27, true) }) rfl (by kernel_rfl) (by kernel_rfl) (by kernel_rfl) (fun _ _ _ h => h) (yieldsIf_load_mid (by rfl) 27 (.tmp 15) rfl B18 0 rfl (pgCells P2) _ (fun _ h => h.whole 7 rfl) HUP.out rfl ((info_pgc HP2l.out))) hHeld ?_
      try simp only [Act.put, List.setIfInBounds_toArray, List.set_cons_zero, List.set_cons_succ]
      refine wpAnyH_take (i := 29) (oi := { dst := some 111, op := Op.load 27 (Operand.tmp 9), type := 27, pos := "law.go:94", after := #[{ on := 27, ground := Ground.guard }], guard := some (27, true) }) rfl (by kernel_rfl) (by kernel_rfl) (by kernel_rfl) (fun _ _ _ h => h) (yieldsIf_load_mid (by rfl) 27 (.tmp 9) rfl B5 0 rfl (pgCells P2) _ (fun _ h => h.whole 4 rfl) HUP.out rfl ((info_pgc HP2l.out))) hHeld ?_
      try simp only [Act.put, List.setIfInBounds_toArray, List.set_cons_zero, List.set_cons_succ]
      refine wpAnyH_take (i := 30) (oi := { dst := some 112, op := Op.binOp BinOp.eql 27 (Operand.tmp 110) (Operand.tmp 111) 27, type := 4, pos := "law.go:94", after := #[{ on := 28, ground := Ground.data }, { on := 29, ground := Ground.data }, { on := 27, ground := Ground.guard }], guard := some (27, true) }) (v := ?q63v) rfl (by kernel_rfl) (by kernel_rfl) (by kernel_rfl) (fun _ _ _ h => h) (Or.inl ⟨by rfl, ?q63h⟩) hHeld ?q63r
      case q63h => (intro wq hSw; clear hSw; go_simp; try with_reducible rfl)
      try simp only [Act.put, List.setIfInBounds_toArray, List.set_cons_zero, List.set_cons_succ]
      refine wpAnyH_take (i := 31) (oi := { dst := some 113, op := Op.pick (Operand.tmp 109) (Operand.tmp 112) (Operand.const (Value.bool false)), type := 4, pos := "law.go:94", after := #[{ on := 27, ground := Ground.data }, { on := 30, ground := Ground.data }], guard := none }) (v := ?q64v) rfl (by kernel_rfl) (by kernel_rfl) (by kernel_rfl) (fun _ _ _ h => h) (Or.inl ⟨by rfl, ?q64h⟩) hHeld ?q64r
      case q64h => (intro wq hSw; clear hSw; go_simp; try with_reducible rfl)
      try simp only [Act.put, List.setIfInBounds_toArray, List.set_cons_zero, List.set_cons_succ]
      refine wpAnyH_take (i := 32) (oi := { dst := some 114, op := Op.move (Operand.tmp 113), type := 4, pos := "law.go:94", after := #[{ on := 31, ground := Ground.data }, { on := 27, ground := Ground.chain }], guard := none }) (v := ?q65v) rfl (by kernel_rfl) (by kernel_rfl) (by kernel_rfl) (fun _ _ _ h => h) (Or.inl ⟨by rfl, ?q65h⟩) hHeld ?q65r
      case q65h => (intro wq hSw; clear hSw; go_simp; try with_reducible rfl)
      try simp only [Act.put, List.setIfInBounds_toArray, List.set_cons_zero, List.set_cons_succ]
      refine wpAnyH_take (i := 33) (oi := { dst := some 115, op := Op.load 29 (Operand.tmp 17), type := 29, pos := "law.go:94", after := #[{ on := 32, ground := Ground.guard }], guard := some (32, true) }) rfl (by kernel_rfl) (by kernel_rfl) (by kernel_rfl) (fun _ _ _ h => h) (yieldsIf_load_mid (by rfl) 29 (.tmp 17) rfl B29 0 rfl (chCells (invR J)) _ (fun _ h => h.whole 8 rfl) HU.out rfl (info_ch)) hHeld ?_
      try simp only [Act.put, List.setIfInBounds_toArray, List.set_cons_zero, List.set_cons_succ]
      refine wpAnyH_take (i := 34) (oi := { dst := some 116, op := Op.load 29 (Operand.tmp 13), type := 29, pos := "law.go:94", after := #[{ on := 32, ground := Ground.guard }], guard := some (32, true) }) rfl (by kernel_rfl) (by kernel_rfl) (by kernel_rfl) (fun _ _ _ h => h) (yieldsIf_load_mid (by rfl) 29 (.tmp 13) rfl B17 0 rfl (chCells J) _ (fun _ h => h.whole 6 rfl) HU.out rfl (info_ch)) hHeld ?_
      try simp only [Act.put, List.setIfInBounds_toArray, List.set_cons_zero, List.set_cons_succ]
      refine wpAnyH_ready (rs := [35]) (by kernel_rfl) (by simp) ?_
      refine AllReadyH.cons (o := { dst := some 117, op := Op.call { callee := Callee.value (Operand.func 17), args := #[Operand.tmp 116], argTypes := #[29] }, type := 29, pos := "law.go:94", after := #[{ on := 34, ground := Ground.data }, { on := 32, ground := Ground.chain }, { on := 32, ground := Ground.guard }], guard := some (32, true) }) rfl (fun K hK => ?_) (AllReadyH.nil)
      go_simp
      go_wp2_with (go_at_call 17; refine (inverse_any J _).mono ?_; rintro e w37 ⟨rfl, hb⟩)
      have HS42 : Hid (St w C [⟨B1, 27, pgCells p⟩, ⟨B3, 29, chCells A⟩, ⟨B2, 29, chCells B⟩, ⟨B4, 27, pgCells P1⟩, ⟨B5, 27, pgCells P2⟩, ⟨B16, 27, pgCells p⟩, ⟨B17, 29, chCells J⟩, ⟨B18, 27, pgCells P2⟩, ⟨B29, 29, chCells (invR J)⟩] w37) := ((HS41.out).drew).calls hb
      refine hK.out _ _ (Obs.init (L := [⟨B1, 27, pgCells p⟩, ⟨B3, 29, chCells A⟩, ⟨B2, 29, chCells B⟩, ⟨B4, 27, pgCells P1⟩, ⟨B5, 27, pgCells P2⟩, ⟨B16, 27, pgCells p⟩, ⟨B17, 29, chCells J⟩, ⟨B18, 27, pgCells P2⟩, ⟨B29, 29, chCells (invR J)⟩]) (M := []) HS42.out.all) (fun hHeld => ?_)
      clear hK K hb
      try simp only [Act.put, List.setIfInBounds_toArray, List.set_cons_zero, List.set_cons_succ]
      refine wpAnyH_take (i := 36) (oi := { dst := some 118, op := Op.binOp BinOp.eql 29 (Operand.tmp 115) (Operand.tmp 117) 29, type := 4, pos := "law.go:94", after := #[{ on := 33, ground := Ground.data }, { on := 35, ground := Ground.data }, { on := 32, ground := Ground.guard }], guard := some (32, true) }) (v := ?q68v) rfl (by kernel_rfl) (by kernel_rfl) (by kernel_rfl) (fun _ _ _ h => h) (Or.inl ⟨by rfl, ?q68h⟩) hHeld ?q68r
      case q68h => (intro wq hSw; clear hSw; go_simp; try with_reducible rfl)
      try simp only [Act.put, List.setIfInBounds_toArray, List.set_cons_zero, List.set_cons_succ]
      refine wpAnyH_take (i := 37) (oi := { dst := some 119, op := Op.pick (Operand.tmp 114) (Operand.tmp 118) (Operand.const (Value.bool false)), type := 4, pos := "law.go:94", after := #[{ on := 32, ground := Ground.data }, { on := 36, ground := Ground.data }], guard := none }) (v := ?q69v) rfl (by kernel_rfl) (by kernel_rfl) (by kernel_rfl) (fun _ _ _ h => h) (Or.inl ⟨by rfl, ?q69h⟩) hHeld ?q69r
      case q69h => (intro wq hSw; clear hSw; go_simp; try with_reducible rfl)
      try simp only [Act.put, List.setIfInBounds_toArray, List.set_cons_zero, List.set_cons_succ]
      refine wpAnyH_take (i := 38) (oi := { dst := some 2, op := Op.assign (Operand.tmp 119), type := 4, pos := "law.go:94", after := #[{ on := 37, ground := Ground.data }, { on := 35, ground := Ground.chain }, { on := 0, ground := Ground.phase }, { on := 1, ground := Ground.phase }, { on := 2, ground := Ground.phase }, { on := 3, ground := Ground.phase }, { on := 4, ground := Ground.phase }, { on := 5, ground := Ground.phase }, { on := 6, ground := Ground.phase }, { on := 7, ground := Ground.phase }, { on := 8, ground := Ground.phase }, { on := 9, ground := Ground.phase }, { on := 10, ground := Ground.phase }, { on := 11, ground := Ground.phase }, { on := 12, ground := Ground.phase }, { on := 13, ground := Ground.phase }, { on := 14, ground := Ground.phase }, { on := 15, ground := Ground.phase }, { on := 16, ground := Ground.phase }, { on := 17, ground := Ground.phase }, { on := 18, ground := Ground.phase }, { on := 19, ground := Ground.phase }, { on := 20, ground := Ground.phase }, { on := 21, ground := Ground.phase }, { on := 22, ground := Ground.phase }, { on := 23, ground := Ground.phase }, { on := 24, ground := Ground.phase }, { on := 25, ground := Ground.phase }, { on := 26, ground := Ground.phase }, { on := 27, ground := Ground.phase }, { on := 28, ground := Ground.phase }, { on := 29, ground := Ground.phase }, { on := 30, ground := Ground.phase }, { on := 31, ground := Ground.phase }, { on := 32, ground := Ground.phase }, { on := 33, ground := Ground.phase }, { on := 34, ground := Ground.phase }, { on := 35, ground := Ground.phase }, { on := 36, ground := Ground.phase }, { on := 37, ground := Ground.phase }], guard := none }) (v := ?q70v) rfl (by kernel_rfl) (by kernel_rfl) (by kernel_rfl) (fun _ _ _ h => h) (Or.inl ⟨by rfl, ?q70h⟩) hHeld ?q70r
      case q70h => (intro wq hSw; clear hSw; go_simp; try with_reducible rfl)
      try simp only [Act.put, List.setIfInBounds_toArray, List.set_cons_zero, List.set_cons_succ]
      refine wpAnyH_done (by kernel_rfl) ?_ _
      go_wp2_with fail
      go_ret
      exact ⟨rfl, HS42.out.old⟩
end Go.Proofs.Ytbadfcnkpeohfaa
