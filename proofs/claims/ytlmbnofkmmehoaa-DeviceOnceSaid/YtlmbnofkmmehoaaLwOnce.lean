/- the law DeviceOnce: for every input the call returns true -/
import Derived.Test.YtlmbnofkmmehoaaDvOnce
import Derived.Test.YtlmbnofkmmehoaaOm2
import Derived.Deep.RegionHeld3
import Derived.Deep.CutBlock
namespace Go.Proofs.Ytlmbnofkmmehoaa
open Go.RowKit
set_option maxRecDepth 20000
set_option linter.unusedSimpArgs false
set_option linter.unusedVariables false

def blCells (T : List Bool) : List Value := T.map Value.bool
theorem blCells_len (T : List Bool) : (blCells T).length = T.length := List.length_map _
theorem info_b3 {T : List Bool} (h : T.length = 3) : (Try.prog.info? 54).map (·.size) = some (blCells T).length := by rw [blCells_len, h]; kernel_rfl
theorem oneCell_bl (T : List Bool) : ((blCells T).toArray).all (·.oneCell') = true := by
  rw [Array.all_eq_true]
  intro i hi
  simp [blCells]
  rfl
theorem alloc_b3 (w : World) : Sem.run Try.prog (Instr.alloc 54 true (.tuple #[])) w = .ok (.pointer (some ⟨w.heap.size, 0, none⟩)) (w.alloc (.cells (blCells [false, false, false]).toArray 54)) := by kernel_rfl
theorem build_b3 (W : World) : Sem.run Try.prog (Instr.build 54 #[]) W = .ok (.agg (blCells [false, false, false]).toArray) W := by kernel_rfl
theorem blCells_at {T : List Bool} {k : Nat} {b : Bool} (h : T[k]? = some b) : (blCells T)[k]? = some (.bool b) := by simp [blCells, h]
theorem blCells_set (T : List Bool) (k : Nat) (b : Bool) : (blCells T).set k (.bool b) = blCells (T.set k b) := by simp [blCells, List.map_set]
theorem build_flt2' (a b : Int) (W : World) : Sem.run Try.prog (Instr.build 29 #[(0, .int .i64 a), (1, .int .i64 b)]) W = .ok (.agg (fltCells ⟨a, b, 0, 0, 0, 0⟩).toArray) W := by kernel_rfl
theorem oncF_mk {kd k pg tg b m : Int} (hk : 1 ≤ k ∧ k ≤ 5) (hkd : 1 ≤ kd ∧ kd ≤ 5) (hp : 0 ≤ pg ∧ pg < 3) (ht : 0 ≤ tg ∧ tg < 3) (hb : 0 ≤ b ∧ b < 256) (hm : 0 ≤ m ∧ m ≤ 255) (hs : shapeB ⟨kd, k, pg, tg, b, m⟩ = true) : OncF ⟨kd, k, pg, tg, b, m⟩ k := oncF_of hk hkd rfl hp ht hb hm hs
set_option maxHeartbeats 16000000 in
theorem once_any (x : Option Addr) (len cap : Nat) (zs : List Int) (kd att : Int) (w : World) (hr : IsRow .u8 w x len cap zs) (hkd : 0 ≤ kd ∧ kd ≤ 255) (hat : 0 ≤ att ∧ att ≤ 255) :
    Calls Try.prog 6 #[.slice x len cap, .int .u8 kd, .int .u8 att] w fun e w' => e = .returned (.bool true) ∧ Below w.heap.size w w' := by
  have HR := Lib.hid hr
  clear hr
  obtain ⟨k, hk⟩ : ∃ k, k = 1 + att.tmod 5 := ⟨_, rfl⟩
  obtain ⟨kk, hkk⟩ : ∃ kk, kk = 1 + kd.tmod 5 := ⟨_, rfl⟩
  have hk5 : 1 ≤ k ∧ k ≤ 5 := by rw [hk, Int.tmod_eq_emod_of_nonneg hat.1]; omega
  have hkk5 : 1 ≤ kk ∧ kk ≤ 5 := by rw [hkk, Int.tmod_eq_emod_of_nonneg hkd.1]; omega
  have HK5 := Lib.hid hk5
  have HKK5 := Lib.hid hkk5
  have hka : IntKind.i64.wrap (1 + att.tmod 5) = k := by rw [← hk]; exact IntWalk.i64_in _ (by omega)
  have hkb : IntKind.i64.wrap (1 + kd.tmod 5) = kk := by rw [← hkk]; exact IntWalk.i64_in _ (by omega)
  have hw1 : IntKind.i64.wrap att = att := IntWalk.i64_in _ (by omega)
  have hw2 : IntKind.i64.wrap kd = kd := IntWalk.i64_in _ (by omega)
  have HN := Lib.hid (And.intro (And.intro hka hkb) (And.intro hw1 hw2))
  clear hka hkb hw1 hw2 hk hkk hkd hat hk5 hkk5
  obtain ⟨fs, hud⟩ := under_dv
  have HUD := Lib.hid hud
  obtain ⟨fs2, huf⟩ := under_flt
  have HUF := Lib.hid huf
  clear hud huf
  go_enter Try.func6, Try.ntmps6
  go_wp2_with fail
  refine (awake4 _).mono ?_
  rintro e w1 ⟨rfl, hb⟩
  have HS0 : Hid (Hp w [] w1) := (Hp.start w).calls hb
  clear hb
  go_wp2_with fail
  refine (new_hp 100 (by omega) HS0.out HR.out).mono ?_
  rintro e w2 ⟨rfl, hs⟩
  have HS1 : Hid (Hp w [.cd w1.heap.size] w2) := hs
  clear hs HS0 HR
  generalize w1.heap.size = C at *
  have hka := HN.out.1.1
  have hkb := HN.out.1.2
  have hw1 := HN.out.2.1
  have hw2 := HN.out.2.2
  go_upto_region 6 with (first | ((with_reducible refine wpList_build_v 29 (.agg (fltCells ⟨kk, k, 0, 0, 0, 0⟩).toArray) ?_ ?_); (intro W; simp only [List.map_toArray, List.map_cons, List.map_nil]; exact build_flt2' kk k W); simp only [Act.put, List.setIfInBounds_toArray, List.set_cons_zero, List.set_cons_succ]) | ((with_reducible refine wpList_alloc_ob 29 (fltCells fltNil) ?_ ?_); (exact alloc_flt); simp only [Act.put, List.setIfInBounds_toArray, List.set_cons_zero, List.set_cons_succ]) | ((with_reducible refine wpList_store_ob 29 (.tmp 9) (w2.heap.size) (fltCells ⟨kk, k, 0, 0, 0, 0⟩) (fltCells fltNil) 29 ?_ ?_ ?_ ?_ ?_ ?_ ?_); (exact rfl); (exact rfl); (exact ((HS1.out).put 29 (fltCells fltNil)).get 1 rfl); (exact info_flt); (exact rfl); (exact (oneCell_flt _)); skip))
  have HS2 : Hid (Hp w [.cd C, .ob (w2.heap.size) 29 (fltCells ⟨kk, k, 0, 0, 0, 0⟩)] ((w2.alloc (.cells (fltCells fltNil).toArray 29)).setRow (w2.heap.size) (fltCells ⟨kk, k, 0, 0, 0, 0⟩).toArray)) := ((HS1.out).put 29 (fltCells fltNil)).row 1 rfl (fltCells ⟨kk, k, 0, 0, 0, 0⟩)
  clear HS1
  generalize ((w2.alloc (.cells (fltCells fltNil).toArray 29)).setRow (w2.heap.size) (fltCells ⟨kk, k, 0, 0, 0, 0⟩).toArray) = w3 at *
  generalize w2.heap.size = B1 at *
  clear hka hkb hw1 hw2 HN
  have hk0 : w3.cell? ⟨B1, 0, none⟩ = some (.int .i64 kk) := HS2.out.at 1 rfl 0 rfl
  go_upto_block 0 with fail
  clear hk0
  go_cut [] (fun wx => ∃ f : Flt, OncF f k ∧ Hp w [.cd C, .ob B1 29 (fltCells f)] wx)
  case first =>
    have hkk := HKK5.out
    have h5 : kk = 1 ∨ kk = 2 ∨ kk = 3 ∨ kk = 4 ∨ kk = 5 := by omega
    clear hkk
    rcases h5 with rfl | rfl | rfl | rfl | rfl
    · go_wp2_with fail
      go_meet
      exact ⟨⟨1, k, 0, 0, 0, 0⟩, oncF_mk HK5.out (by omega) (by omega) (by omega) (by omega) (by omega) (by simp [shapeB]), HS2.out⟩
    · go_wp2_with fail
      refine (next_any C 3 _ (HS2.out.codes 0 rfl) (by omega)).mono ?_
      rintro e wa ⟨n, rfl, n0, n1, hb, hc⟩
      have HA : Hid (Hp w [.cd C, .ob B1 29 (fltCells ⟨2, k, 0, 0, 0, 0⟩)] wa) := HS2.out.draws 0 rfl hb hc
      clear hb hc
      have c3 : wa.cell? ⟨B1, 3, none⟩ = some (.int .i64 0) := HA.out.at 1 rfl 3 rfl
      have f3 : wa.frozen? ⟨B1, 3, none⟩ = false := HA.out.frozen 1 rfl 3
      go_wp2_with fail
      go_meet
      exact ⟨⟨2, k, 0, n, 0, 0⟩, oncF_mk HK5.out (by omega) (by omega) (by omega) (by omega) (by omega) (by simp [shapeB]), HA.out.set 1 rfl 3 (.int .i64 n)⟩
    · go_wp2_with fail
      refine (next_any C 256 _ (HS2.out.codes 0 rfl) (by omega)).mono ?_
      rintro e wa ⟨n, rfl, n0, n1, hb, hc⟩
      have HA : Hid (Hp w [.cd C, .ob B1 29 (fltCells ⟨3, k, 0, 0, 0, 0⟩)] wa) := HS2.out.draws 0 rfl hb hc
      clear hb hc
      have c4 : wa.cell? ⟨B1, 4, none⟩ = some (.int .i64 0) := HA.out.at 1 rfl 4 rfl
      have f4 : wa.frozen? ⟨B1, 4, none⟩ = false := HA.out.frozen 1 rfl 4
      go_wp2_with fail
      go_meet
      exact ⟨⟨3, k, 0, 0, n, 0⟩, oncF_mk HK5.out (by omega) (by omega) (by omega) (by omega) (by omega) (by simp [shapeB]), HA.out.set 1 rfl 4 (.int .i64 n)⟩
    · go_wp2_with fail
      refine (next_any C 3 _ (HS2.out.codes 0 rfl) (by omega)).mono ?_
      rintro e wa ⟨n, rfl, n0, n1, hb, hc⟩
      have HA : Hid (Hp w [.cd C, .ob B1 29 (fltCells ⟨4, k, 0, 0, 0, 0⟩)] wa) := HS2.out.draws 0 rfl hb hc
      clear hb hc
      go_wp2_with fail
      refine (next_any C 256 _ (HA.out.codes 0 rfl) (by omega)).mono ?_
      rintro e wb ⟨m, rfl, m0, m1, hb, hc⟩
      have HB : Hid (Hp w [.cd C, .ob B1 29 (fltCells ⟨4, k, 0, 0, 0, 0⟩)] wb) := HA.out.draws 0 rfl hb hc
      clear hb hc
      have c2 : wb.cell? ⟨B1, 2, none⟩ = some (.int .i64 0) := HB.out.at 1 rfl 2 rfl
      have f2 : wb.frozen? ⟨B1, 2, none⟩ = false := HB.out.frozen 1 rfl 2
      have c4 : wb.cell? ⟨B1, 4, none⟩ = some (.int .i64 0) := HB.out.at 1 rfl 4 rfl
      have f4 : wb.frozen? ⟨B1, 4, none⟩ = false := HB.out.frozen 1 rfl 4
      have c5 : wb.cell? ⟨B1, 5, none⟩ = some (.int .u8 0) := HB.out.at 1 rfl 5 rfl
      have f5 : wb.frozen? ⟨B1, 5, none⟩ = false := HB.out.frozen 1 rfl 5
      go_wp2_with fail
      go_meet
      exact ⟨⟨4, k, n, 0, m, 1⟩, oncF_mk HK5.out (by omega) (by omega) (by omega) (by omega) (by omega) (by simp [shapeB]), ((HB.out.set 1 rfl 2 (.int .i64 n)).set 1 rfl 4 (.int .i64 m)).set 1 rfl 5 (.int .u8 1)⟩
    · go_wp2_with fail
      refine (next_any C 3 _ (HS2.out.codes 0 rfl) (by omega)).mono ?_
      rintro e wa ⟨n, rfl, n0, n1, hb, hc⟩
      have HA : Hid (Hp w [.cd C, .ob B1 29 (fltCells ⟨5, k, 0, 0, 0, 0⟩)] wa) := HS2.out.draws 0 rfl hb hc
      clear hb hc
      have c2 : wa.cell? ⟨B1, 2, none⟩ = some (.int .i64 0) := HA.out.at 1 rfl 2 rfl
      have f2 : wa.frozen? ⟨B1, 2, none⟩ = false := HA.out.frozen 1 rfl 2
      go_wp2_with fail
      go_meet
      exact ⟨⟨5, k, n, 0, 0, 0⟩, oncF_mk HK5.out (by omega) (by omega) (by omega) (by omega) (by omega) (by simp [shapeB]), HA.out.set 1 rfl 2 (.int .i64 n)⟩
  case rest =>
    obtain ⟨f, hf, hs⟩ := hcut
    clear HKK5 HS2
    have HF := Lib.hid hf
    have HQ := Lib.hid hs
    obtain ⟨a0, b0, e1, e2, oa, ob, on⟩ := Onc.start hf
    have HE : Hid (newR 3 = (a0, 0) ∧ injectR a0 f = (b0, 0)) := ⟨e1, e2⟩
    have HO : Hid (DvOk a0 ∧ DvOk b0) := ⟨oa, ob⟩
    have HOn := Lib.hid on
    clear hs hf e1 e2 oa ob on
    generalize wc = w9 at *
    go_wp2_with fail
    refine (dv_as HE.out.1 (new_dv 3 _)).mono ?_
    rintro e w11 ⟨p0, u0, f0, R0, rfl, hrd, hin, hnew, hb⟩
    obtain ⟨ap0, cp0, rfl, _⟩ := hrd.pages
    obtain ⟨au0, cu0, rfl, _⟩ := hrd.unread
    obtain ⟨af0, cf0, rfl, _⟩ := hrd.faults
    have HDv0 := Lib.hid hrd
    have HS11 : Hid (Hp w [.cd C, .ob B1 29 (fltCells f), .rd R0] w11) := (HQ.out).addrd hb R0 hin (fun r hr => (hnew r hr).elim .inl (fun h => absurd h List.not_mem_nil))
    clear hb hin hnew hrd
    clear HQ
    go_wp2_with (first | ((with_reducible refine wpList_alloc_ob 27 (dvCells nilS dvNil nilS nilS) ?_ ?_); (exact alloc_dv); simp only [Act.put, List.setIfInBounds_toArray, List.set_cons_zero, List.set_cons_succ]) | ((with_reducible refine wpList_store_ob 27 (.tmp 10) (w11.heap.size) (dvCells (.slice ap0 a0.pages.length cp0) a0 (.slice au0 a0.unread.length cu0) (.slice af0 a0.faults.length cf0)) (dvCells nilS dvNil nilS nilS) 27 ?_ ?_ ?_ ?_ ?_ ?_ ?_); (exact rfl); (exact rfl); (exact ((HS11.out).put 27 (dvCells nilS dvNil nilS nilS)).get 3 rfl); (exact info_dv); (exact rfl); (exact (oneCell_dv _ _ _ _ _ _ _ _ _ _)); skip) | ((with_reducible refine wpList_load_ob 27 (.tmp 10) (w11.heap.size) (dvCells (.slice ap0 a0.pages.length cp0) a0 (.slice au0 a0.unread.length cu0) (.slice af0 a0.faults.length cf0)) 27 HUD.out ?_ ?_ ?_ ?_ ?_); (exact rfl); (exact (((HS11.out).put 27 (dvCells nilS dvNil nilS nilS)).row 3 rfl (dvCells (.slice ap0 a0.pages.length cp0) a0 (.slice au0 a0.unread.length cu0) (.slice af0 a0.faults.length cf0))).get 3 rfl); (exact rfl); (exact info_dv); simp only [Act.put, List.setIfInBounds_toArray, List.set_cons_zero, List.set_cons_succ]) | ((with_reducible refine wpList_load_ob 29 (.tmp 9) B1 (fltCells f) 29 HUF.out ?_ ?_ ?_ ?_ ?_); (exact rfl); (exact (((HS11.out).put 27 (dvCells nilS dvNil nilS nilS)).row 3 rfl (dvCells (.slice ap0 a0.pages.length cp0) a0 (.slice au0 a0.unread.length cu0) (.slice af0 a0.faults.length cf0))).get 1 rfl); (exact rfl); (exact info_flt); simp only [Act.put, List.setIfInBounds_toArray, List.set_cons_zero, List.set_cons_succ]))
    refine (dv_as HE.out.2 (inject_any f _ HDv0.out ((((HS11.out).put 27 (dvCells nilS dvNil nilS nilS)).row 3 rfl (dvCells (.slice ap0 a0.pages.length cp0) a0 (.slice au0 a0.unread.length cu0) (.slice af0 a0.faults.length cf0))).reads 2 rfl) HO.out.1.goodDv HF.out.good HO.out.1.pg HO.out.1.fl)).mono ?_
    rintro e w12 ⟨p1, u1, f1, R1, rfl, hrd, hin, hnew, hb⟩
    obtain ⟨ap1, cp1, rfl, _⟩ := hrd.pages
    obtain ⟨au1, cu1, rfl, _⟩ := hrd.unread
    obtain ⟨af1, cf1, rfl, _⟩ := hrd.faults
    have HDv1 := Lib.hid hrd
    have HS12 : Hid (Hp w [.cd C, .ob B1 29 (fltCells f), .rd R0, .ob (w11.heap.size) 27 (dvCells (.slice ap0 a0.pages.length cp0) a0 (.slice au0 a0.unread.length cu0) (.slice af0 a0.faults.length cf0)), .rd R1] w12) := (((HS11.out).put 27 (dvCells nilS dvNil nilS nilS)).row 3 rfl (dvCells (.slice ap0 a0.pages.length cp0) a0 (.slice au0 a0.unread.length cu0) (.slice af0 a0.faults.length cf0))).addrd hb R1 hin (fun r hr => (hnew r hr).elim .inl (fun h => .inr ⟨.rd R0, List.mem_of_getElem? (i := 2) rfl, List.mem_map.2 ⟨r, h, rfl⟩⟩))
    clear hb hin hnew hrd
    clear HS11
    generalize w11.heap.size = B2 at *
    go_wp2_with (first | ((with_reducible refine wpList_alloc_ob 27 (dvCells nilS dvNil nilS nilS) ?_ ?_); (exact alloc_dv); simp only [Act.put, List.setIfInBounds_toArray, List.set_cons_zero, List.set_cons_succ]) | ((with_reducible refine wpList_store_ob 27 (.tmp 12) (w12.heap.size) (dvCells (.slice ap1 b0.pages.length cp1) b0 (.slice au1 b0.unread.length cu1) (.slice af1 b0.faults.length cf1)) (dvCells nilS dvNil nilS nilS) 27 ?_ ?_ ?_ ?_ ?_ ?_ ?_); (exact rfl); (exact rfl); (exact ((HS12.out).put 27 (dvCells nilS dvNil nilS nilS)).get 5 rfl); (exact info_dv); (exact rfl); (exact (oneCell_dv _ _ _ _ _ _ _ _ _ _)); skip) | ((with_reducible refine wpList_build_v 54 (.agg (blCells [false, false, false]).toArray) ?_ ?_); (intro W; simp only [List.map_toArray, List.map_cons, List.map_nil]; exact build_b3 W); simp only [Act.put, List.setIfInBounds_toArray, List.set_cons_zero, List.set_cons_succ]) | ((with_reducible refine wpList_alloc_ob 54 (blCells [false, false, false]) ?_ ?_); (exact alloc_b3); simp only [Act.put, List.setIfInBounds_toArray, List.set_cons_zero, List.set_cons_succ]) | ((with_reducible refine wpList_store_ob 54 (.tmp 14) (((w12.alloc (.cells (dvCells nilS dvNil nilS nilS).toArray 27)).setRow (w12.heap.size) (dvCells (.slice ap1 b0.pages.length cp1) b0 (.slice au1 b0.unread.length cu1) (.slice af1 b0.faults.length cf1)).toArray).heap.size) (blCells [false, false, false]) (blCells [false, false, false]) 54 ?_ ?_ ?_ ?_ ?_ ?_ ?_); (exact rfl); (exact rfl); (exact ((((HS12.out).put 27 (dvCells nilS dvNil nilS nilS)).row 5 rfl (dvCells (.slice ap1 b0.pages.length cp1) b0 (.slice au1 b0.unread.length cu1) (.slice af1 b0.faults.length cf1))).put 54 (blCells [false, false, false])).get 6 rfl); (exact info_b3 rfl); (exact rfl); (exact (oneCell_bl _)); skip))
    have HS13 : Hid (Hp w [.cd C, .ob B1 29 (fltCells f), .rd R0, .ob B2 27 (dvCells (.slice ap0 a0.pages.length cp0) a0 (.slice au0 a0.unread.length cu0) (.slice af0 a0.faults.length cf0)), .rd R1, .ob (w12.heap.size) 27 (dvCells (.slice ap1 b0.pages.length cp1) b0 (.slice au1 b0.unread.length cu1) (.slice af1 b0.faults.length cf1)), .ob (((w12.alloc (.cells (dvCells nilS dvNil nilS nilS).toArray 27)).setRow (w12.heap.size) (dvCells (.slice ap1 b0.pages.length cp1) b0 (.slice au1 b0.unread.length cu1) (.slice af1 b0.faults.length cf1)).toArray).heap.size) 54 (blCells [false, false, false])] ((((w12.alloc (.cells (dvCells nilS dvNil nilS nilS).toArray 27)).setRow (w12.heap.size) (dvCells (.slice ap1 b0.pages.length cp1) b0 (.slice au1 b0.unread.length cu1) (.slice af1 b0.faults.length cf1)).toArray).alloc (.cells (blCells [false, false, false]).toArray 54)).setRow (((w12.alloc (.cells (dvCells nilS dvNil nilS nilS).toArray 27)).setRow (w12.heap.size) (dvCells (.slice ap1 b0.pages.length cp1) b0 (.slice au1 b0.unread.length cu1) (.slice af1 b0.faults.length cf1)).toArray).heap.size) (blCells [false, false, false]).toArray)) := ((((HS12.out).put 27 (dvCells nilS dvNil nilS nilS)).row 5 rfl (dvCells (.slice ap1 b0.pages.length cp1) b0 (.slice au1 b0.unread.length cu1) (.slice af1 b0.faults.length cf1))).put 54 (blCells [false, false, false])).row 6 rfl (blCells [false, false, false])
    clear HS12
    generalize ((((w12.alloc (.cells (dvCells nilS dvNil nilS nilS).toArray 27)).setRow (w12.heap.size) (dvCells (.slice ap1 b0.pages.length cp1) b0 (.slice au1 b0.unread.length cu1) (.slice af1 b0.faults.length cf1)).toArray).alloc (.cells (blCells [false, false, false]).toArray 54)).setRow (((w12.alloc (.cells (dvCells nilS dvNil nilS nilS).toArray 27)).setRow (w12.heap.size) (dvCells (.slice ap1 b0.pages.length cp1) b0 (.slice au1 b0.unread.length cu1) (.slice af1 b0.faults.length cf1)).toArray).heap.size) (blCells [false, false, false]).toArray) = w13 at *
    generalize ((w12.alloc (.cells (dvCells nilS dvNil nilS nilS).toArray 27)).setRow (w12.heap.size) (dvCells (.slice ap1 b0.pages.length cp1) b0 (.slice au1 b0.unread.length cu1) (.slice af1 b0.faults.length cf1)).toArray).heap.size = B3 at *
    generalize w12.heap.size = B4 at *
    have HS14 : Hid (Hp w [.cd C, .ob B1 29 (fltCells f), .ob B2 27 (dvCells (.slice ap0 a0.pages.length cp0) a0 (.slice au0 a0.unread.length cu0) (.slice af0 a0.faults.length cf0)), .ob B4 27 (dvCells (.slice ap1 b0.pages.length cp1) b0 (.slice au1 b0.unread.length cu1) (.slice af1 b0.faults.length cf1)), .ob B3 54 (blCells [false, false, false]), .rd R0, .rd R1] w13) := HS13.out.pull [0, 1, 3, 5, 6, 2, 4] rfl (pull_nd HS13.out.nd [0, 1, 3, 5, 6, 2, 4] rfl (by decide))
    clear HS13
    go_loopw [15] (fun si wr => ∃ (a b : Dv) (T : List Bool) (pa ua fa pb ub fb : Value) (Ra Rb : List Rng) (i : Nat), si = .int .i64 i ∧ 1 ≤ i ∧ i ≤ 7 ∧ Onc f k i a b T ∧ DvRd pa ua fa a Ra ∧ DvRd pb ub fb b Rb ∧ Hp w [.cd C, .ob B1 29 (fltCells f), .ob B2 27 (dvCells pa a ua fa), .ob B4 27 (dvCells pb b ub fb), .ob B3 54 (blCells T), .rd Ra, .rd Rb] wr) (fun si _ => 7 - (intOf si).toNat)
    case atStart => exact ⟨a0, b0, [false, false, false], _, _, _, _, _, _, _, _, 1, rfl, Nat.le_refl _, by decide, HOn.out, HDv0.out, HDv1.out, HS14.out⟩
    case round =>
      clear HDv0 HDv1 HOn HO HE HS14
      obtain ⟨a, b, T, pa, ua, fa, pb, ub, fb, Ra, Rb, i, rfl, hi1, hi7, on, hda, hdb, hs⟩ := hrel
      obtain ⟨ap0, cp0, rfl, _⟩ := hda.pages
      obtain ⟨au0, cu0, rfl, _⟩ := hda.unread
      obtain ⟨af0, cf0, rfl, _⟩ := hda.faults
      obtain ⟨ap1, cp1, rfl, _⟩ := hdb.pages
      obtain ⟨au1, cu1, rfl, _⟩ := hdb.unread
      obtain ⟨af1, cf1, rfl, _⟩ := hdb.faults
      have HDa := Lib.hid hda
      have HDb := Lib.hid hdb
      have HQ := Lib.hid hs
      clear hda hdb hs
      by_cases hlt : i ≤ 6
      · have hi6 : (i : Int) ≤ 6 := by omega
        have hi0 : (0 : Int) ≤ (i : Int) := by omega
        have HI : Hid (1 ≤ i ∧ i ≤ 6) := ⟨hi1, hlt⟩
        have HOn := Lib.hid on
        clear on hlt hi1 hi7
        go_wp2_with fail
        refine (next_any C 3 _ ((HQ.out).codes 0 rfl) (by omega)).mono ?_
        rintro e w21 ⟨pn, rfl, p0, p1, hb, hc⟩
        have HS21 : Hid (Hp w [.cd C, .ob B1 29 (fltCells f), .ob B2 27 (dvCells (.slice ap0 a.pages.length cp0) a (.slice au0 a.unread.length cu0) (.slice af0 a.faults.length cf0)), .ob B4 27 (dvCells (.slice ap1 b.pages.length cp1) b (.slice au1 b.unread.length cu1) (.slice af1 b.faults.length cf1)), .ob B3 54 (blCells T), .rd Ra, .rd Rb] w21) := (HQ.out).draws 0 rfl hb hc
        clear hb hc
        clear HQ
        obtain ⟨p, rfl⟩ := Int.eq_ofNat_of_zero_le p0
        have hp3 : p < 3 := by omega
        have HP3 := Lib.hid hp3
        have hpi : (p : Int) < 3 := by omega
        have hpi0 : (0 : Int) ≤ (p : Int) := by omega
        clear p0 p1 hp3
        go_wp2_with fail
        refine (bytes_any C _ ((HS21.out).codes 0 rfl)).mono ?_
        rintro e w22 ⟨s, rfl, hs2, hb, hc⟩
        have HS22 : Hid (Hp w [.cd C, .ob B1 29 (fltCells f), .ob B2 27 (dvCells (.slice ap0 a.pages.length cp0) a (.slice au0 a.unread.length cu0) (.slice af0 a.faults.length cf0)), .ob B4 27 (dvCells (.slice ap1 b.pages.length cp1) b (.slice au1 b.unread.length cu1) (.slice af1 b.faults.length cf1)), .ob B3 54 (blCells T), .rd Ra, .rd Rb] w22) := (HS21.out).draws 0 rfl hb hc
        clear hb hc
        clear HS21
        have HSz := Lib.hid hs2
        clear hs2
        obtain ⟨a', b', T', ea, eb, hT', on⟩ : ∃ a' b' T', writeR a p s = (a', 0) ∧ writeR b p s = (b', 0) ∧ touchR T f k i p = T' ∧ Onc f k (i + 1) a' b' T' := by
          obtain ⟨h1, h2, h3⟩ := HOn.out.step HF.out (by have := HI.out; omega) HP3.out HSz.out
          exact ⟨_, _, _, h1, h2, rfl, h3⟩
        have HEa := Lib.hid ea
        have HEb := Lib.hid eb
        have HT' := Lib.hid hT'
        have HOn2 := Lib.hid on
        have HSm : Hid (s.size ≤ maxLen) := by show _ ≤ _; rw [HSz.out]; decide
        clear ea eb hT' on
        go_wp2_with (first | ((with_reducible refine wpList_load_ob 27 (.tmp 10) B2 (dvCells (.slice ap0 a.pages.length cp0) a (.slice au0 a.unread.length cu0) (.slice af0 a.faults.length cf0)) 27 HUD.out ?_ ?_ ?_ ?_ ?_); (exact rfl); (exact (HS22.out).get 2 rfl); (exact rfl); (exact info_dv); simp only [Act.put, List.setIfInBounds_toArray, List.set_cons_zero, List.set_cons_succ]))
        refine (dv_as HEa.out (write_any p s _ HDa.out ((HS22.out).reads 5 rfl) HOn.out.oa.goodDv HSm.out HOn.out.oa.pg HOn.out.oa.fl)).mono ?_
        rintro e w23 ⟨p2, u2, f2, R2, rfl, hrd, hin, hnew, hb⟩
        obtain ⟨ap2, cp2, rfl, _⟩ := hrd.pages
        obtain ⟨au2, cu2, rfl, _⟩ := hrd.unread
        obtain ⟨af2, cf2, rfl, _⟩ := hrd.faults
        have HDv2 := Lib.hid hrd
        have HS23 : Hid (Hp w [.cd C, .ob B1 29 (fltCells f), .ob B2 27 (dvCells (.slice ap0 a.pages.length cp0) a (.slice au0 a.unread.length cu0) (.slice af0 a.faults.length cf0)), .ob B4 27 (dvCells (.slice ap1 b.pages.length cp1) b (.slice au1 b.unread.length cu1) (.slice af1 b.faults.length cf1)), .ob B3 54 (blCells T), .rd Ra, .rd Rb, .rd R2] w23) := (HS22.out).addrd hb R2 hin (fun r hr => (hnew r hr).elim .inl (fun h => .inr ⟨.rd Ra, List.mem_of_getElem? (i := 5) rfl, List.mem_map.2 ⟨r, h, rfl⟩⟩))
        clear hb hin hnew hrd
        clear HS22
        go_wp2_with (first | ((with_reducible refine wpList_store_ob 27 (.tmp 10) B2 (dvCells (.slice ap2 a'.pages.length cp2) a' (.slice au2 a'.unread.length cu2) (.slice af2 a'.faults.length cf2)) (dvCells (.slice ap0 a.pages.length cp0) a (.slice au0 a.unread.length cu0) (.slice af0 a.faults.length cf0)) 27 ?_ ?_ ?_ ?_ ?_ ?_ ?_); (exact rfl); (exact rfl); (exact (HS23.out).get 2 rfl); (exact info_dv); (exact rfl); (exact (oneCell_dv _ _ _ _ _ _ _ _ _ _)); skip) | ((with_reducible refine wpList_load_ob 27 (.tmp 12) B4 (dvCells (.slice ap1 b.pages.length cp1) b (.slice au1 b.unread.length cu1) (.slice af1 b.faults.length cf1)) 27 HUD.out ?_ ?_ ?_ ?_ ?_); (exact rfl); (exact ((HS23.out).row 2 rfl (dvCells (.slice ap2 a'.pages.length cp2) a' (.slice au2 a'.unread.length cu2) (.slice af2 a'.faults.length cf2))).get 3 rfl); (exact rfl); (exact info_dv); simp only [Act.put, List.setIfInBounds_toArray, List.set_cons_zero, List.set_cons_succ]))
        refine (dv_as HEb.out (write_any p s _ HDb.out (((HS23.out).row 2 rfl (dvCells (.slice ap2 a'.pages.length cp2) a' (.slice au2 a'.unread.length cu2) (.slice af2 a'.faults.length cf2))).reads 6 rfl) HOn.out.ob.goodDv HSm.out HOn.out.ob.pg HOn.out.ob.fl)).mono ?_
        rintro e w24 ⟨p3, u3, f3, R3, rfl, hrd, hin, hnew, hb⟩
        obtain ⟨ap3, cp3, rfl, _⟩ := hrd.pages
        obtain ⟨au3, cu3, rfl, _⟩ := hrd.unread
        obtain ⟨af3, cf3, rfl, _⟩ := hrd.faults
        have HDv3 := Lib.hid hrd
        have HS24 : Hid (Hp w [.cd C, .ob B1 29 (fltCells f), .ob B2 27 (dvCells (.slice ap2 a'.pages.length cp2) a' (.slice au2 a'.unread.length cu2) (.slice af2 a'.faults.length cf2)), .ob B4 27 (dvCells (.slice ap1 b.pages.length cp1) b (.slice au1 b.unread.length cu1) (.slice af1 b.faults.length cf1)), .ob B3 54 (blCells T), .rd Ra, .rd Rb, .rd R2, .rd R3] w24) := ((HS23.out).row 2 rfl (dvCells (.slice ap2 a'.pages.length cp2) a' (.slice au2 a'.unread.length cu2) (.slice af2 a'.faults.length cf2))).addrd hb R3 hin (fun r hr => (hnew r hr).elim .inl (fun h => .inr ⟨.rd Rb, List.mem_of_getElem? (i := 6) rfl, List.mem_map.2 ⟨r, h, rfl⟩⟩))
        clear hb hin hnew hrd
        clear HS23
        go_upto_region 28 with (first | ((with_reducible refine wpList_store_ob 27 (.tmp 12) B4 (dvCells (.slice ap3 b'.pages.length cp3) b' (.slice au3 b'.unread.length cu3) (.slice af3 b'.faults.length cf3)) (dvCells (.slice ap1 b.pages.length cp1) b (.slice au1 b.unread.length cu1) (.slice af1 b.faults.length cf1)) 27 ?_ ?_ ?_ ?_ ?_ ?_ ?_); (exact rfl); (exact rfl); (exact (HS24.out).get 3 rfl); (exact info_dv); (exact rfl); (exact (oneCell_dv _ _ _ _ _ _ _ _ _ _)); skip))
        have HS25 : Hid (Hp w [.cd C, .ob B1 29 (fltCells f), .ob B2 27 (dvCells (.slice ap2 a'.pages.length cp2) a' (.slice au2 a'.unread.length cu2) (.slice af2 a'.faults.length cf2)), .ob B4 27 (dvCells (.slice ap3 b'.pages.length cp3) b' (.slice au3 b'.unread.length cu3) (.slice af3 b'.faults.length cf3)), .ob B3 54 (blCells T), .rd Ra, .rd Rb, .rd R2, .rd R3] (w24.setRow B4 (dvCells (.slice ap3 b'.pages.length cp3) b' (.slice au3 b'.unread.length cu3) (.slice af3 b'.faults.length cf3)).toArray)) := (HS24.out).row 3 rfl (dvCells (.slice ap3 b'.pages.length cp3) b' (.slice au3 b'.unread.length cu3) (.slice af3 b'.faults.length cf3))
        clear HS24
        generalize (w24.setRow B4 (dvCells (.slice ap3 b'.pages.length cp3) b' (.slice au3 b'.unread.length cu3) (.slice af3 b'.faults.length cf3)).toArray) = w25 at *
        have HS26 : Hid (Hp w [.cd C, .ob B1 29 (fltCells f), .ob B2 27 (dvCells (.slice ap2 a'.pages.length cp2) a' (.slice au2 a'.unread.length cu2) (.slice af2 a'.faults.length cf2)), .ob B4 27 (dvCells (.slice ap3 b'.pages.length cp3) b' (.slice au3 b'.unread.length cu3) (.slice af3 b'.faults.length cf3)), .ob B3 54 (blCells T), .rd R2, .rd R3] w25) := HS25.out.pull [0, 1, 2, 3, 4, 7, 8] rfl (pull_nd HS25.out.nd [0, 1, 2, 3, 4, 7, 8] rfl (by decide))
        clear HS25
        go_upto_if 110 with (fail)
        go_cut [] (fun wx => Hp w [.cd C, .ob B1 29 (fltCells f), .ob B2 27 (dvCells (.slice ap2 a'.pages.length cp2) a' (.slice au2 a'.unread.length cu2) (.slice af2 a'.faults.length cf2)), .ob B4 27 (dvCells (.slice ap3 b'.pages.length cp3) b' (.slice au3 b'.unread.length cu3) (.slice af3 b'.faults.length cf3)), .ob B3 54 (blCells T'), .rd R2, .rd R3] wx)
        case first =>
          obtain ⟨t0, t1, t2, rfl⟩ : ∃ t0 t1 t2, T = [t0, t1, t2] := by
            have h := HOn.out.lt
            match T, h with
            | [t0, t1, t2], _ => exact ⟨t0, t1, t2, rfl⟩
          have hr := HF.out.rng
          by_cases hik : (i : Int) = k
          · have HIK := Lib.hid hik
            have htg : (f.target = 0 ∧ f.page = 0) ∨ (f.target = 0 ∧ f.page = 1) ∨ (f.target = 0 ∧ f.page = 2) ∨ (f.target = 1 ∧ f.page = 0) ∨ (f.target = 2 ∧ f.page = 0) := by have := HF.out.one; omega
            have hq3 : p = 0 ∨ p = 1 ∨ p = 2 := by have := HP3.out; omega
            clear hr
            clear HIK
            subst hik
            rcases hq3 with rfl | rfl | rfl <;> rcases htg with ⟨et, eg⟩ | ⟨et, eg⟩ | ⟨et, eg⟩ | ⟨et, eg⟩ | ⟨et, eg⟩
            · have c3 : w25.cell? ⟨B1, 3, none⟩ = some (.int .i64 0) := by rw [← et]; exact HS26.out.at 1 rfl 3 rfl
              have c2 : w25.cell? ⟨B1, 2, none⟩ = some (.int .i64 0) := by rw [← eg]; exact HS26.out.at 1 rfl 2 rfl
              have HT2 : Hid (touchR [t0, t1, t2] f i i 0 = ((([t0, t1, t2].set 0 true).set 0 true).set 0 true)) := by show _ = _; unfold touchR; rw [if_pos rfl, et, eg]; rfl
              clear et eg
              have d0 : w25.cell? ⟨B3, 0, none⟩ = some (.bool t0) := HS26.out.at 4 rfl 0 rfl
              have g0 : w25.frozen? ⟨B3, 0, none⟩ = false := HS26.out.frozen 4 rfl 0
              have d1 : w25.cell? ⟨B3, 1, none⟩ = some (.bool t1) := HS26.out.at 4 rfl 1 rfl
              have g1 : w25.frozen? ⟨B3, 1, none⟩ = false := HS26.out.frozen 4 rfl 1
              have d2 : w25.cell? ⟨B3, 2, none⟩ = some (.bool t2) := HS26.out.at 4 rfl 2 rfl
              have g2 : w25.frozen? ⟨B3, 2, none⟩ = false := HS26.out.frozen 4 rfl 2
              have ne1 : B1 ≠ B3 := HS26.out.ne 1 4 rfl rfl (by decide) rfl rfl
              go_wp2_with fail
              go_region_held3 (fun w' => w'.cell? ⟨B1, 3, none⟩ = some (.int .i64 0) ∧ w'.cell? ⟨B1, 2, none⟩ = some (.int .i64 0)) (first | (simp [*, World.cell?_setCell_far]; done) | (simp [*, World.cell?_setCell_far, World.cell?_setCell_other]; done)) (fail)
              rename_i hHeld
              clear hHeld
              all_goals (go_wp2_with fail; go_meet; rw [← HT'.out, HT2.out]; exact (((HS26.out.drew.set 4 rfl 0 (.bool true)).set 4 rfl 0 (.bool true)).set 4 rfl 0 (.bool true)))
            · have c3 : w25.cell? ⟨B1, 3, none⟩ = some (.int .i64 0) := by rw [← et]; exact HS26.out.at 1 rfl 3 rfl
              have c2 : w25.cell? ⟨B1, 2, none⟩ = some (.int .i64 1) := by rw [← eg]; exact HS26.out.at 1 rfl 2 rfl
              have HT2 : Hid (touchR [t0, t1, t2] f i i 0 = ((([t0, t1, t2].set 0 true).set 0 true).set 1 true)) := by show _ = _; unfold touchR; rw [if_pos rfl, et, eg]; rfl
              clear et eg
              have d0 : w25.cell? ⟨B3, 0, none⟩ = some (.bool t0) := HS26.out.at 4 rfl 0 rfl
              have g0 : w25.frozen? ⟨B3, 0, none⟩ = false := HS26.out.frozen 4 rfl 0
              have d1 : w25.cell? ⟨B3, 1, none⟩ = some (.bool t1) := HS26.out.at 4 rfl 1 rfl
              have g1 : w25.frozen? ⟨B3, 1, none⟩ = false := HS26.out.frozen 4 rfl 1
              have d2 : w25.cell? ⟨B3, 2, none⟩ = some (.bool t2) := HS26.out.at 4 rfl 2 rfl
              have g2 : w25.frozen? ⟨B3, 2, none⟩ = false := HS26.out.frozen 4 rfl 2
              have ne1 : B1 ≠ B3 := HS26.out.ne 1 4 rfl rfl (by decide) rfl rfl
              go_wp2_with fail
              go_region_held3 (fun w' => w'.cell? ⟨B1, 3, none⟩ = some (.int .i64 0) ∧ w'.cell? ⟨B1, 2, none⟩ = some (.int .i64 1)) (first | (simp [*, World.cell?_setCell_far]; done) | (simp [*, World.cell?_setCell_far, World.cell?_setCell_other]; done)) (fail)
              rename_i hHeld
              clear hHeld
              all_goals (go_wp2_with fail; go_meet; rw [← HT'.out, HT2.out]; exact (((HS26.out.drew.set 4 rfl 0 (.bool true)).set 4 rfl 0 (.bool true)).set 4 rfl 1 (.bool true)))
            · have c3 : w25.cell? ⟨B1, 3, none⟩ = some (.int .i64 0) := by rw [← et]; exact HS26.out.at 1 rfl 3 rfl
              have c2 : w25.cell? ⟨B1, 2, none⟩ = some (.int .i64 2) := by rw [← eg]; exact HS26.out.at 1 rfl 2 rfl
              have HT2 : Hid (touchR [t0, t1, t2] f i i 0 = ((([t0, t1, t2].set 0 true).set 0 true).set 2 true)) := by show _ = _; unfold touchR; rw [if_pos rfl, et, eg]; rfl
              clear et eg
              have d0 : w25.cell? ⟨B3, 0, none⟩ = some (.bool t0) := HS26.out.at 4 rfl 0 rfl
              have g0 : w25.frozen? ⟨B3, 0, none⟩ = false := HS26.out.frozen 4 rfl 0
              have d1 : w25.cell? ⟨B3, 1, none⟩ = some (.bool t1) := HS26.out.at 4 rfl 1 rfl
              have g1 : w25.frozen? ⟨B3, 1, none⟩ = false := HS26.out.frozen 4 rfl 1
              have d2 : w25.cell? ⟨B3, 2, none⟩ = some (.bool t2) := HS26.out.at 4 rfl 2 rfl
              have g2 : w25.frozen? ⟨B3, 2, none⟩ = false := HS26.out.frozen 4 rfl 2
              have ne1 : B1 ≠ B3 := HS26.out.ne 1 4 rfl rfl (by decide) rfl rfl
              go_wp2_with fail
              go_region_held3 (fun w' => w'.cell? ⟨B1, 3, none⟩ = some (.int .i64 0) ∧ w'.cell? ⟨B1, 2, none⟩ = some (.int .i64 2)) (first | (simp [*, World.cell?_setCell_far]; done) | (simp [*, World.cell?_setCell_far, World.cell?_setCell_other]; done)) (fail)
              rename_i hHeld
              clear hHeld
              all_goals (go_wp2_with fail; go_meet; rw [← HT'.out, HT2.out]; exact (((HS26.out.drew.set 4 rfl 0 (.bool true)).set 4 rfl 0 (.bool true)).set 4 rfl 2 (.bool true)))
            · have c3 : w25.cell? ⟨B1, 3, none⟩ = some (.int .i64 1) := by rw [← et]; exact HS26.out.at 1 rfl 3 rfl
              have c2 : w25.cell? ⟨B1, 2, none⟩ = some (.int .i64 0) := by rw [← eg]; exact HS26.out.at 1 rfl 2 rfl
              have HT2 : Hid (touchR [t0, t1, t2] f i i 0 = ((([t0, t1, t2].set 0 true).set 1 true).set 0 true)) := by show _ = _; unfold touchR; rw [if_pos rfl, et, eg]; rfl
              clear et eg
              have d0 : w25.cell? ⟨B3, 0, none⟩ = some (.bool t0) := HS26.out.at 4 rfl 0 rfl
              have g0 : w25.frozen? ⟨B3, 0, none⟩ = false := HS26.out.frozen 4 rfl 0
              have d1 : w25.cell? ⟨B3, 1, none⟩ = some (.bool t1) := HS26.out.at 4 rfl 1 rfl
              have g1 : w25.frozen? ⟨B3, 1, none⟩ = false := HS26.out.frozen 4 rfl 1
              have d2 : w25.cell? ⟨B3, 2, none⟩ = some (.bool t2) := HS26.out.at 4 rfl 2 rfl
              have g2 : w25.frozen? ⟨B3, 2, none⟩ = false := HS26.out.frozen 4 rfl 2
              have ne1 : B1 ≠ B3 := HS26.out.ne 1 4 rfl rfl (by decide) rfl rfl
              go_wp2_with fail
              go_region_held3 (fun w' => w'.cell? ⟨B1, 3, none⟩ = some (.int .i64 1) ∧ w'.cell? ⟨B1, 2, none⟩ = some (.int .i64 0)) (first | (simp [*, World.cell?_setCell_far]; done) | (simp [*, World.cell?_setCell_far, World.cell?_setCell_other]; done)) (fail)
              rename_i hHeld
              clear hHeld
              all_goals (go_wp2_with fail; go_meet; rw [← HT'.out, HT2.out]; exact (((HS26.out.drew.set 4 rfl 0 (.bool true)).set 4 rfl 1 (.bool true)).set 4 rfl 0 (.bool true)))
            · have c3 : w25.cell? ⟨B1, 3, none⟩ = some (.int .i64 2) := by rw [← et]; exact HS26.out.at 1 rfl 3 rfl
              have c2 : w25.cell? ⟨B1, 2, none⟩ = some (.int .i64 0) := by rw [← eg]; exact HS26.out.at 1 rfl 2 rfl
              have HT2 : Hid (touchR [t0, t1, t2] f i i 0 = ((([t0, t1, t2].set 0 true).set 2 true).set 0 true)) := by show _ = _; unfold touchR; rw [if_pos rfl, et, eg]; rfl
              clear et eg
              have d0 : w25.cell? ⟨B3, 0, none⟩ = some (.bool t0) := HS26.out.at 4 rfl 0 rfl
              have g0 : w25.frozen? ⟨B3, 0, none⟩ = false := HS26.out.frozen 4 rfl 0
              have d1 : w25.cell? ⟨B3, 1, none⟩ = some (.bool t1) := HS26.out.at 4 rfl 1 rfl
              have g1 : w25.frozen? ⟨B3, 1, none⟩ = false := HS26.out.frozen 4 rfl 1
              have d2 : w25.cell? ⟨B3, 2, none⟩ = some (.bool t2) := HS26.out.at 4 rfl 2 rfl
              have g2 : w25.frozen? ⟨B3, 2, none⟩ = false := HS26.out.frozen 4 rfl 2
              have ne1 : B1 ≠ B3 := HS26.out.ne 1 4 rfl rfl (by decide) rfl rfl
              go_wp2_with fail
              go_region_held3 (fun w' => w'.cell? ⟨B1, 3, none⟩ = some (.int .i64 2) ∧ w'.cell? ⟨B1, 2, none⟩ = some (.int .i64 0)) (first | (simp [*, World.cell?_setCell_far]; done) | (simp [*, World.cell?_setCell_far, World.cell?_setCell_other]; done)) (fail)
              rename_i hHeld
              clear hHeld
              all_goals (go_wp2_with fail; go_meet; rw [← HT'.out, HT2.out]; exact (((HS26.out.drew.set 4 rfl 0 (.bool true)).set 4 rfl 2 (.bool true)).set 4 rfl 0 (.bool true)))
            · have c3 : w25.cell? ⟨B1, 3, none⟩ = some (.int .i64 0) := by rw [← et]; exact HS26.out.at 1 rfl 3 rfl
              have c2 : w25.cell? ⟨B1, 2, none⟩ = some (.int .i64 0) := by rw [← eg]; exact HS26.out.at 1 rfl 2 rfl
              have HT2 : Hid (touchR [t0, t1, t2] f i i 1 = ((([t0, t1, t2].set 1 true).set 0 true).set 0 true)) := by show _ = _; unfold touchR; rw [if_pos rfl, et, eg]; rfl
              clear et eg
              have d0 : w25.cell? ⟨B3, 0, none⟩ = some (.bool t0) := HS26.out.at 4 rfl 0 rfl
              have g0 : w25.frozen? ⟨B3, 0, none⟩ = false := HS26.out.frozen 4 rfl 0
              have d1 : w25.cell? ⟨B3, 1, none⟩ = some (.bool t1) := HS26.out.at 4 rfl 1 rfl
              have g1 : w25.frozen? ⟨B3, 1, none⟩ = false := HS26.out.frozen 4 rfl 1
              have d2 : w25.cell? ⟨B3, 2, none⟩ = some (.bool t2) := HS26.out.at 4 rfl 2 rfl
              have g2 : w25.frozen? ⟨B3, 2, none⟩ = false := HS26.out.frozen 4 rfl 2
              have ne1 : B1 ≠ B3 := HS26.out.ne 1 4 rfl rfl (by decide) rfl rfl
              go_wp2_with fail
              go_region_held3 (fun w' => w'.cell? ⟨B1, 3, none⟩ = some (.int .i64 0) ∧ w'.cell? ⟨B1, 2, none⟩ = some (.int .i64 0)) (first | (simp [*, World.cell?_setCell_far]; done) | (simp [*, World.cell?_setCell_far, World.cell?_setCell_other]; done)) (fail)
              rename_i hHeld
              clear hHeld
              all_goals (go_wp2_with fail; go_meet; rw [← HT'.out, HT2.out]; exact (((HS26.out.drew.set 4 rfl 1 (.bool true)).set 4 rfl 0 (.bool true)).set 4 rfl 0 (.bool true)))
            · have c3 : w25.cell? ⟨B1, 3, none⟩ = some (.int .i64 0) := by rw [← et]; exact HS26.out.at 1 rfl 3 rfl
              have c2 : w25.cell? ⟨B1, 2, none⟩ = some (.int .i64 1) := by rw [← eg]; exact HS26.out.at 1 rfl 2 rfl
              have HT2 : Hid (touchR [t0, t1, t2] f i i 1 = ((([t0, t1, t2].set 1 true).set 0 true).set 1 true)) := by show _ = _; unfold touchR; rw [if_pos rfl, et, eg]; rfl
              clear et eg
              have d0 : w25.cell? ⟨B3, 0, none⟩ = some (.bool t0) := HS26.out.at 4 rfl 0 rfl
              have g0 : w25.frozen? ⟨B3, 0, none⟩ = false := HS26.out.frozen 4 rfl 0
              have d1 : w25.cell? ⟨B3, 1, none⟩ = some (.bool t1) := HS26.out.at 4 rfl 1 rfl
              have g1 : w25.frozen? ⟨B3, 1, none⟩ = false := HS26.out.frozen 4 rfl 1
              have d2 : w25.cell? ⟨B3, 2, none⟩ = some (.bool t2) := HS26.out.at 4 rfl 2 rfl
              have g2 : w25.frozen? ⟨B3, 2, none⟩ = false := HS26.out.frozen 4 rfl 2
              have ne1 : B1 ≠ B3 := HS26.out.ne 1 4 rfl rfl (by decide) rfl rfl
              go_wp2_with fail
              go_region_held3 (fun w' => w'.cell? ⟨B1, 3, none⟩ = some (.int .i64 0) ∧ w'.cell? ⟨B1, 2, none⟩ = some (.int .i64 1)) (first | (simp [*, World.cell?_setCell_far]; done) | (simp [*, World.cell?_setCell_far, World.cell?_setCell_other]; done)) (fail)
              rename_i hHeld
              clear hHeld
              all_goals (go_wp2_with fail; go_meet; rw [← HT'.out, HT2.out]; exact (((HS26.out.drew.set 4 rfl 1 (.bool true)).set 4 rfl 0 (.bool true)).set 4 rfl 1 (.bool true)))
            · have c3 : w25.cell? ⟨B1, 3, none⟩ = some (.int .i64 0) := by rw [← et]; exact HS26.out.at 1 rfl 3 rfl
              have c2 : w25.cell? ⟨B1, 2, none⟩ = some (.int .i64 2) := by rw [← eg]; exact HS26.out.at 1 rfl 2 rfl
              have HT2 : Hid (touchR [t0, t1, t2] f i i 1 = ((([t0, t1, t2].set 1 true).set 0 true).set 2 true)) := by show _ = _; unfold touchR; rw [if_pos rfl, et, eg]; rfl
              clear et eg
              have d0 : w25.cell? ⟨B3, 0, none⟩ = some (.bool t0) := HS26.out.at 4 rfl 0 rfl
              have g0 : w25.frozen? ⟨B3, 0, none⟩ = false := HS26.out.frozen 4 rfl 0
              have d1 : w25.cell? ⟨B3, 1, none⟩ = some (.bool t1) := HS26.out.at 4 rfl 1 rfl
              have g1 : w25.frozen? ⟨B3, 1, none⟩ = false := HS26.out.frozen 4 rfl 1
              have d2 : w25.cell? ⟨B3, 2, none⟩ = some (.bool t2) := HS26.out.at 4 rfl 2 rfl
              have g2 : w25.frozen? ⟨B3, 2, none⟩ = false := HS26.out.frozen 4 rfl 2
              have ne1 : B1 ≠ B3 := HS26.out.ne 1 4 rfl rfl (by decide) rfl rfl
              go_wp2_with fail
              go_region_held3 (fun w' => w'.cell? ⟨B1, 3, none⟩ = some (.int .i64 0) ∧ w'.cell? ⟨B1, 2, none⟩ = some (.int .i64 2)) (first | (simp [*, World.cell?_setCell_far]; done) | (simp [*, World.cell?_setCell_far, World.cell?_setCell_other]; done)) (fail)
              rename_i hHeld
              clear hHeld
              all_goals (go_wp2_with fail; go_meet; rw [← HT'.out, HT2.out]; exact (((HS26.out.drew.set 4 rfl 1 (.bool true)).set 4 rfl 0 (.bool true)).set 4 rfl 2 (.bool true)))
            · have c3 : w25.cell? ⟨B1, 3, none⟩ = some (.int .i64 1) := by rw [← et]; exact HS26.out.at 1 rfl 3 rfl
              have c2 : w25.cell? ⟨B1, 2, none⟩ = some (.int .i64 0) := by rw [← eg]; exact HS26.out.at 1 rfl 2 rfl
              have HT2 : Hid (touchR [t0, t1, t2] f i i 1 = ((([t0, t1, t2].set 1 true).set 1 true).set 0 true)) := by show _ = _; unfold touchR; rw [if_pos rfl, et, eg]; rfl
              clear et eg
              have d0 : w25.cell? ⟨B3, 0, none⟩ = some (.bool t0) := HS26.out.at 4 rfl 0 rfl
              have g0 : w25.frozen? ⟨B3, 0, none⟩ = false := HS26.out.frozen 4 rfl 0
              have d1 : w25.cell? ⟨B3, 1, none⟩ = some (.bool t1) := HS26.out.at 4 rfl 1 rfl
              have g1 : w25.frozen? ⟨B3, 1, none⟩ = false := HS26.out.frozen 4 rfl 1
              have d2 : w25.cell? ⟨B3, 2, none⟩ = some (.bool t2) := HS26.out.at 4 rfl 2 rfl
              have g2 : w25.frozen? ⟨B3, 2, none⟩ = false := HS26.out.frozen 4 rfl 2
              have ne1 : B1 ≠ B3 := HS26.out.ne 1 4 rfl rfl (by decide) rfl rfl
              go_wp2_with fail
              go_region_held3 (fun w' => w'.cell? ⟨B1, 3, none⟩ = some (.int .i64 1) ∧ w'.cell? ⟨B1, 2, none⟩ = some (.int .i64 0)) (first | (simp [*, World.cell?_setCell_far]; done) | (simp [*, World.cell?_setCell_far, World.cell?_setCell_other]; done)) (fail)
              rename_i hHeld
              clear hHeld
              all_goals (go_wp2_with fail; go_meet; rw [← HT'.out, HT2.out]; exact (((HS26.out.drew.set 4 rfl 1 (.bool true)).set 4 rfl 1 (.bool true)).set 4 rfl 0 (.bool true)))
            · have c3 : w25.cell? ⟨B1, 3, none⟩ = some (.int .i64 2) := by rw [← et]; exact HS26.out.at 1 rfl 3 rfl
              have c2 : w25.cell? ⟨B1, 2, none⟩ = some (.int .i64 0) := by rw [← eg]; exact HS26.out.at 1 rfl 2 rfl
              have HT2 : Hid (touchR [t0, t1, t2] f i i 1 = ((([t0, t1, t2].set 1 true).set 2 true).set 0 true)) := by show _ = _; unfold touchR; rw [if_pos rfl, et, eg]; rfl
              clear et eg
              have d0 : w25.cell? ⟨B3, 0, none⟩ = some (.bool t0) := HS26.out.at 4 rfl 0 rfl
              have g0 : w25.frozen? ⟨B3, 0, none⟩ = false := HS26.out.frozen 4 rfl 0
              have d1 : w25.cell? ⟨B3, 1, none⟩ = some (.bool t1) := HS26.out.at 4 rfl 1 rfl
              have g1 : w25.frozen? ⟨B3, 1, none⟩ = false := HS26.out.frozen 4 rfl 1
              have d2 : w25.cell? ⟨B3, 2, none⟩ = some (.bool t2) := HS26.out.at 4 rfl 2 rfl
              have g2 : w25.frozen? ⟨B3, 2, none⟩ = false := HS26.out.frozen 4 rfl 2
              have ne1 : B1 ≠ B3 := HS26.out.ne 1 4 rfl rfl (by decide) rfl rfl
              go_wp2_with fail
              go_region_held3 (fun w' => w'.cell? ⟨B1, 3, none⟩ = some (.int .i64 2) ∧ w'.cell? ⟨B1, 2, none⟩ = some (.int .i64 0)) (first | (simp [*, World.cell?_setCell_far]; done) | (simp [*, World.cell?_setCell_far, World.cell?_setCell_other]; done)) (fail)
              rename_i hHeld
              clear hHeld
              all_goals (go_wp2_with fail; go_meet; rw [← HT'.out, HT2.out]; exact (((HS26.out.drew.set 4 rfl 1 (.bool true)).set 4 rfl 2 (.bool true)).set 4 rfl 0 (.bool true)))
            · have c3 : w25.cell? ⟨B1, 3, none⟩ = some (.int .i64 0) := by rw [← et]; exact HS26.out.at 1 rfl 3 rfl
              have c2 : w25.cell? ⟨B1, 2, none⟩ = some (.int .i64 0) := by rw [← eg]; exact HS26.out.at 1 rfl 2 rfl
              have HT2 : Hid (touchR [t0, t1, t2] f i i 2 = ((([t0, t1, t2].set 2 true).set 0 true).set 0 true)) := by show _ = _; unfold touchR; rw [if_pos rfl, et, eg]; rfl
              clear et eg
              have d0 : w25.cell? ⟨B3, 0, none⟩ = some (.bool t0) := HS26.out.at 4 rfl 0 rfl
              have g0 : w25.frozen? ⟨B3, 0, none⟩ = false := HS26.out.frozen 4 rfl 0
              have d1 : w25.cell? ⟨B3, 1, none⟩ = some (.bool t1) := HS26.out.at 4 rfl 1 rfl
              have g1 : w25.frozen? ⟨B3, 1, none⟩ = false := HS26.out.frozen 4 rfl 1
              have d2 : w25.cell? ⟨B3, 2, none⟩ = some (.bool t2) := HS26.out.at 4 rfl 2 rfl
              have g2 : w25.frozen? ⟨B3, 2, none⟩ = false := HS26.out.frozen 4 rfl 2
              have ne1 : B1 ≠ B3 := HS26.out.ne 1 4 rfl rfl (by decide) rfl rfl
              go_wp2_with fail
              go_region_held3 (fun w' => w'.cell? ⟨B1, 3, none⟩ = some (.int .i64 0) ∧ w'.cell? ⟨B1, 2, none⟩ = some (.int .i64 0)) (first | (simp [*, World.cell?_setCell_far]; done) | (simp [*, World.cell?_setCell_far, World.cell?_setCell_other]; done)) (fail)
              rename_i hHeld
              clear hHeld
              all_goals (go_wp2_with fail; go_meet; rw [← HT'.out, HT2.out]; exact (((HS26.out.drew.set 4 rfl 2 (.bool true)).set 4 rfl 0 (.bool true)).set 4 rfl 0 (.bool true)))
            · have c3 : w25.cell? ⟨B1, 3, none⟩ = some (.int .i64 0) := by rw [← et]; exact HS26.out.at 1 rfl 3 rfl
              have c2 : w25.cell? ⟨B1, 2, none⟩ = some (.int .i64 1) := by rw [← eg]; exact HS26.out.at 1 rfl 2 rfl
              have HT2 : Hid (touchR [t0, t1, t2] f i i 2 = ((([t0, t1, t2].set 2 true).set 0 true).set 1 true)) := by show _ = _; unfold touchR; rw [if_pos rfl, et, eg]; rfl
              clear et eg
              have d0 : w25.cell? ⟨B3, 0, none⟩ = some (.bool t0) := HS26.out.at 4 rfl 0 rfl
              have g0 : w25.frozen? ⟨B3, 0, none⟩ = false := HS26.out.frozen 4 rfl 0
              have d1 : w25.cell? ⟨B3, 1, none⟩ = some (.bool t1) := HS26.out.at 4 rfl 1 rfl
              have g1 : w25.frozen? ⟨B3, 1, none⟩ = false := HS26.out.frozen 4 rfl 1
              have d2 : w25.cell? ⟨B3, 2, none⟩ = some (.bool t2) := HS26.out.at 4 rfl 2 rfl
              have g2 : w25.frozen? ⟨B3, 2, none⟩ = false := HS26.out.frozen 4 rfl 2
              have ne1 : B1 ≠ B3 := HS26.out.ne 1 4 rfl rfl (by decide) rfl rfl
              go_wp2_with fail
              go_region_held3 (fun w' => w'.cell? ⟨B1, 3, none⟩ = some (.int .i64 0) ∧ w'.cell? ⟨B1, 2, none⟩ = some (.int .i64 1)) (first | (simp [*, World.cell?_setCell_far]; done) | (simp [*, World.cell?_setCell_far, World.cell?_setCell_other]; done)) (fail)
              rename_i hHeld
              clear hHeld
              all_goals (go_wp2_with fail; go_meet; rw [← HT'.out, HT2.out]; exact (((HS26.out.drew.set 4 rfl 2 (.bool true)).set 4 rfl 0 (.bool true)).set 4 rfl 1 (.bool true)))
            · have c3 : w25.cell? ⟨B1, 3, none⟩ = some (.int .i64 0) := by rw [← et]; exact HS26.out.at 1 rfl 3 rfl
              have c2 : w25.cell? ⟨B1, 2, none⟩ = some (.int .i64 2) := by rw [← eg]; exact HS26.out.at 1 rfl 2 rfl
              have HT2 : Hid (touchR [t0, t1, t2] f i i 2 = ((([t0, t1, t2].set 2 true).set 0 true).set 2 true)) := by show _ = _; unfold touchR; rw [if_pos rfl, et, eg]; rfl
              clear et eg
              have d0 : w25.cell? ⟨B3, 0, none⟩ = some (.bool t0) := HS26.out.at 4 rfl 0 rfl
              have g0 : w25.frozen? ⟨B3, 0, none⟩ = false := HS26.out.frozen 4 rfl 0
              have d1 : w25.cell? ⟨B3, 1, none⟩ = some (.bool t1) := HS26.out.at 4 rfl 1 rfl
              have g1 : w25.frozen? ⟨B3, 1, none⟩ = false := HS26.out.frozen 4 rfl 1
              have d2 : w25.cell? ⟨B3, 2, none⟩ = some (.bool t2) := HS26.out.at 4 rfl 2 rfl
              have g2 : w25.frozen? ⟨B3, 2, none⟩ = false := HS26.out.frozen 4 rfl 2
              have ne1 : B1 ≠ B3 := HS26.out.ne 1 4 rfl rfl (by decide) rfl rfl
              go_wp2_with fail
              go_region_held3 (fun w' => w'.cell? ⟨B1, 3, none⟩ = some (.int .i64 0) ∧ w'.cell? ⟨B1, 2, none⟩ = some (.int .i64 2)) (first | (simp [*, World.cell?_setCell_far]; done) | (simp [*, World.cell?_setCell_far, World.cell?_setCell_other]; done)) (fail)
              rename_i hHeld
              clear hHeld
              all_goals (go_wp2_with fail; go_meet; rw [← HT'.out, HT2.out]; exact (((HS26.out.drew.set 4 rfl 2 (.bool true)).set 4 rfl 0 (.bool true)).set 4 rfl 2 (.bool true)))
            · have c3 : w25.cell? ⟨B1, 3, none⟩ = some (.int .i64 1) := by rw [← et]; exact HS26.out.at 1 rfl 3 rfl
              have c2 : w25.cell? ⟨B1, 2, none⟩ = some (.int .i64 0) := by rw [← eg]; exact HS26.out.at 1 rfl 2 rfl
              have HT2 : Hid (touchR [t0, t1, t2] f i i 2 = ((([t0, t1, t2].set 2 true).set 1 true).set 0 true)) := by show _ = _; unfold touchR; rw [if_pos rfl, et, eg]; rfl
              clear et eg
              have d0 : w25.cell? ⟨B3, 0, none⟩ = some (.bool t0) := HS26.out.at 4 rfl 0 rfl
              have g0 : w25.frozen? ⟨B3, 0, none⟩ = false := HS26.out.frozen 4 rfl 0
              have d1 : w25.cell? ⟨B3, 1, none⟩ = some (.bool t1) := HS26.out.at 4 rfl 1 rfl
              have g1 : w25.frozen? ⟨B3, 1, none⟩ = false := HS26.out.frozen 4 rfl 1
              have d2 : w25.cell? ⟨B3, 2, none⟩ = some (.bool t2) := HS26.out.at 4 rfl 2 rfl
              have g2 : w25.frozen? ⟨B3, 2, none⟩ = false := HS26.out.frozen 4 rfl 2
              have ne1 : B1 ≠ B3 := HS26.out.ne 1 4 rfl rfl (by decide) rfl rfl
              go_wp2_with fail
              go_region_held3 (fun w' => w'.cell? ⟨B1, 3, none⟩ = some (.int .i64 1) ∧ w'.cell? ⟨B1, 2, none⟩ = some (.int .i64 0)) (first | (simp [*, World.cell?_setCell_far]; done) | (simp [*, World.cell?_setCell_far, World.cell?_setCell_other]; done)) (fail)
              rename_i hHeld
              clear hHeld
              all_goals (go_wp2_with fail; go_meet; rw [← HT'.out, HT2.out]; exact (((HS26.out.drew.set 4 rfl 2 (.bool true)).set 4 rfl 1 (.bool true)).set 4 rfl 0 (.bool true)))
            · have c3 : w25.cell? ⟨B1, 3, none⟩ = some (.int .i64 2) := by rw [← et]; exact HS26.out.at 1 rfl 3 rfl
              have c2 : w25.cell? ⟨B1, 2, none⟩ = some (.int .i64 0) := by rw [← eg]; exact HS26.out.at 1 rfl 2 rfl
              have HT2 : Hid (touchR [t0, t1, t2] f i i 2 = ((([t0, t1, t2].set 2 true).set 2 true).set 0 true)) := by show _ = _; unfold touchR; rw [if_pos rfl, et, eg]; rfl
              clear et eg
              have d0 : w25.cell? ⟨B3, 0, none⟩ = some (.bool t0) := HS26.out.at 4 rfl 0 rfl
              have g0 : w25.frozen? ⟨B3, 0, none⟩ = false := HS26.out.frozen 4 rfl 0
              have d1 : w25.cell? ⟨B3, 1, none⟩ = some (.bool t1) := HS26.out.at 4 rfl 1 rfl
              have g1 : w25.frozen? ⟨B3, 1, none⟩ = false := HS26.out.frozen 4 rfl 1
              have d2 : w25.cell? ⟨B3, 2, none⟩ = some (.bool t2) := HS26.out.at 4 rfl 2 rfl
              have g2 : w25.frozen? ⟨B3, 2, none⟩ = false := HS26.out.frozen 4 rfl 2
              have ne1 : B1 ≠ B3 := HS26.out.ne 1 4 rfl rfl (by decide) rfl rfl
              go_wp2_with fail
              go_region_held3 (fun w' => w'.cell? ⟨B1, 3, none⟩ = some (.int .i64 2) ∧ w'.cell? ⟨B1, 2, none⟩ = some (.int .i64 0)) (first | (simp [*, World.cell?_setCell_far]; done) | (simp [*, World.cell?_setCell_far, World.cell?_setCell_other]; done)) (fail)
              rename_i hHeld
              clear hHeld
              all_goals (go_wp2_with fail; go_meet; rw [← HT'.out, HT2.out]; exact (((HS26.out.drew.set 4 rfl 2 (.bool true)).set 4 rfl 2 (.bool true)).set 4 rfl 0 (.bool true)))
          · have hki : decide ((i : Int) = k) = false := decide_eq_false hik
            have HIK := Lib.hid hik
            clear hik hr
            by_cases hlk : k < (i : Int)
            · obtain ⟨tp, htp⟩ : ∃ tp, [t0, t1, t2][p]? = some tp := ⟨_, List.getElem?_eq_getElem (HP3.out : p < 3)⟩
              have d0 : w25.cell? ⟨B3, p, none⟩ = some (.bool tp) := HS26.out.at 4 rfl p (blCells_at htp)
              have g0 : w25.frozen? ⟨B3, p, none⟩ = false := HS26.out.frozen 4 rfl p
              clear htp
              go_wp2_with fail
              go_meet
              have ht2 : touchR [t0, t1, t2] f k i p = [t0, t1, t2].set p false := by unfold touchR; rw [if_neg (by have := HIK.out; omega), if_pos (by omega)]
              rw [← HT'.out, ht2, ← blCells_set]
              exact HS26.out.set 4 rfl p (.bool false)
            · have hlk' : decide (k < (i : Int)) = false := decide_eq_false hlk
              have HLK := Lib.hid hlk
              have hlk2 : (i : Int) < k := by have := HIK.out; omega
              clear hlk hlk' hki
              go_wp2_with fail
              go_meet
              have ht2 : touchR [t0, t1, t2] f k i p = [t0, t1, t2] := by unfold touchR; rw [if_neg (by have := HIK.out; omega), if_neg (by have := HLK.out; omega)]
              rw [← HT'.out, ht2]
              exact HS26.out
        case rest =>
          have HQ := Lib.hid hcut
          clear hcut HS26
          generalize wc = w70 at *
          go_wp2_with fail
          go_loopw [18] (fun sx wx => ∃ x : Nat, x ≤ 3 ∧ sx = .int .i64 x ∧ Hp w [.cd C, .ob B1 29 (fltCells f), .ob B2 27 (dvCells (.slice ap2 a'.pages.length cp2) a' (.slice au2 a'.unread.length cu2) (.slice af2 a'.faults.length cf2)), .ob B4 27 (dvCells (.slice ap3 b'.pages.length cp3) b' (.slice au3 b'.unread.length cu3) (.slice af3 b'.faults.length cf3)), .ob B3 54 (blCells T'), .rd R2, .rd R3] wx) (fun sx _ => 3 - (intOf sx).toNat)
          case atStart => exact ⟨0, by decide, rfl, HQ.out⟩
          case round =>
            obtain ⟨x, hx3, rfl, hs⟩ := hrel
            clear HQ
            have HQ := Lib.hid hs
            clear hs
            by_cases hxl : x < 3
            · have hx0 : (0 : Int) ≤ (x : Int) := by omega
              have hxi : (x : Int) < 3 := by omega
              have HX3 := Lib.hid hxl
              obtain ⟨sx, hsx, hsb⟩ : ∃ sx, readR a' x = (sx, 0) ∧ (T'[x]? = some false → readR b' x = (sx, 0)) := ⟨_, (HOn2.out.read hxl).1, (HOn2.out.read hxl).2⟩
              have HSx := Lib.hid hsx
              obtain ⟨tx, gx, htx⟩ : ∃ tx gx, readR b' x = (tx, gx) := ⟨_, _, rfl⟩
              have HTx := Lib.hid htx
              obtain ⟨tv, htv⟩ : ∃ tv, T'[x]? = some tv := ⟨_, List.getElem?_eq_getElem (by have := HOn2.out.lt; omega)⟩
              have HTv := Lib.hid htv
              have HG : Hid (tv = false → tx = sx ∧ gx = 0) := fun e => by
                have h := hsb (htv.trans (congrArg some e))
                rw [htx] at h
                exact ⟨(Prod.mk.inj h).1, (Prod.mk.inj h).2⟩
              clear hsx hsb htx htv hxl hx3
              go_wp2_with (first | ((with_reducible refine wpList_load_ob 27 (.tmp 10) B2 (dvCells (.slice ap2 a'.pages.length cp2) a' (.slice au2 a'.unread.length cu2) (.slice af2 a'.faults.length cf2)) 27 HUD.out ?_ ?_ ?_ ?_ ?_); (exact rfl); (exact (HQ.out).get 2 rfl); (exact rfl); (exact info_dv); simp only [Act.put, List.setIfInBounds_toArray, List.set_cons_zero, List.set_cons_succ]))
              refine (HSx.out ▸ read_any x _ HDv2.out ((HQ.out).reads 5 rfl) HOn2.out.oa.goodDv).mono ?_
              rintro e w91 ⟨rfl, hb⟩
              have HS91 : Hid (Hp w [.cd C, .ob B1 29 (fltCells f), .ob B2 27 (dvCells (.slice ap2 a'.pages.length cp2) a' (.slice au2 a'.unread.length cu2) (.slice af2 a'.faults.length cf2)), .ob B4 27 (dvCells (.slice ap3 b'.pages.length cp3) b' (.slice au3 b'.unread.length cu3) (.slice af3 b'.faults.length cf3)), .ob B3 54 (blCells T'), .rd R2, .rd R3] w91) := (HQ.out).calls hb
              clear hb
              clear HQ
              go_wp2_with (first | ((with_reducible refine wpList_load_ob 27 (.tmp 12) B4 (dvCells (.slice ap3 b'.pages.length cp3) b' (.slice au3 b'.unread.length cu3) (.slice af3 b'.faults.length cf3)) 27 HUD.out ?_ ?_ ?_ ?_ ?_); (exact rfl); (exact (HS91.out).get 3 rfl); (exact rfl); (exact info_dv); simp only [Act.put, List.setIfInBounds_toArray, List.set_cons_zero, List.set_cons_succ]))
              refine (HTx.out ▸ read_any x _ HDv3.out ((HS91.out).reads 6 rfl) HOn2.out.ob.goodDv).mono ?_
              rintro e w92 ⟨rfl, hb⟩
              have HS92 : Hid (Hp w [.cd C, .ob B1 29 (fltCells f), .ob B2 27 (dvCells (.slice ap2 a'.pages.length cp2) a' (.slice au2 a'.unread.length cu2) (.slice af2 a'.faults.length cf2)), .ob B4 27 (dvCells (.slice ap3 b'.pages.length cp3) b' (.slice au3 b'.unread.length cu3) (.slice af3 b'.faults.length cf3)), .ob B3 54 (blCells T'), .rd R2, .rd R3] w92) := (HS91.out).calls hb
              clear hb
              clear HS91
              have dT : w92.cell? ⟨B3, x, none⟩ = some (.bool tv) := HS92.out.at 4 rfl x (blCells_at HTv.out)
              by_cases htf : tv = false
              · obtain ⟨e1, e2⟩ := HG.out htf
                subst htf e1 e2
                go_wp2_with fail
                go_roundw
                case rel => exact ⟨x + 1, by omega, by go_num, HS92.out⟩
                case measure => simp [intOf]; omega
              · have htt : tv = true := by simpa using htf
                subst htt
                clear htf
                go_wp2_with fail
                go_roundw
                case rel => exact ⟨x + 1, by omega, by go_num, HS92.out⟩
                case measure => simp [intOf]; omega
            · have hx3i : ¬ (x : Int) < 3 := by omega
              clear hxl hx3
              go_wp2_with fail
              go_roundw
              case rel => exact ⟨a', b', T', _, _, _, _, _, _, R2, R3, i + 1, by go_num, by omega, by have := HI.out; omega, HOn2.out, HDv2.out, HDv3.out, HQ.out⟩
              case measure => simp [intOf]; have := HI.out; omega
      · obtain rfl : i = 7 := by omega
        have hz := Onc.done HF.out on
        have c4 : wr.cell? ⟨B4, 4, none⟩ = some (.slice af1 0 cf1) := by rw [← hz]; exact HQ.out.at 3 rfl 4 rfl
        clear hz on hlt hi1 hi7
        go_wp2_with fail
        go_ret
        exact ⟨rfl, HQ.out.old⟩
end Go.Proofs.Ytlmbnofkmmehoaa
