/- the law EntryReturns: for every input the call returns true -/
import Derived.Test.YtgljhfofikjbdaaOm5
namespace Go.Proofs.Ytgljhfofikjbdaa
open Go.RowKit
set_option maxRecDepth 20000
set_option linter.unusedSimpArgs false
set_option linter.unusedVariables false

set_option maxHeartbeats 8000000 in
theorem returns_any (x : Option Addr) (len cap : Nat) (zs : List Int) (w : World) (hr : IsRow .u8 w x len cap zs) : Calls Try.prog 5 #[.slice x len cap] w fun e w' => e = .returned (.bool true) ∧ Below w.heap.size w w' := by
  have HR := Lib.hid hr
  clear hr
  obtain ⟨fsHUE, huHUE⟩ := under_en
  have HUE := Lib.hid huHUE
  clear huHUE
  go_enter Try.func5, Try.ntmps5
  go_wp2_with fail
  refine (awake_en _).mono ?_
  rintro e w1 ⟨rfl, hb⟩
  have HS0 : Hid (Hp w [] w1) := (Hp.start w).calls hb
  clear hb
  go_wp2_with fail
  refine (new_hp 120 (by omega) HS0.out HR.out).mono ?_
  rintro e w2 ⟨rfl, hs⟩
  have HS1 : Hid (Hp w [.cd w1.heap.size] w2) := hs
  clear hs HS0 HR
  generalize w1.heap.size = C at *
  go_wp2_with fail
  refine (entry_any C _ ((HS1.out).codes 0 rfl)).mono ?_
  rintro e w3 ⟨y, rfl, Hy, hb, hc⟩
  have HS2 : Hid (Hp w [.cd C] w3) := (HS1.out).draws 0 rfl hb hc
  clear hb hc
  clear HS1
  go_upto_region 5 with (first | ((with_reducible refine wpList_alloc_ob 28 (enCells enNil) ?_ ?_); (exact alloc_en); simp only [Act.put, List.setIfInBounds_toArray, List.set_cons_zero, List.set_cons_succ]) | ((with_reducible refine wpList_store_ob 28 (.tmp 4) (w3.heap.size) (enCells y) (enCells enNil) 28 ?_ ?_ ?_ ?_ ?_ ?_ ?_); (exact rfl); (exact rfl); (exact ((HS2.out).put 28 (enCells enNil)).get 1 rfl); (exact info_en); (exact rfl); (exact (oneCell_en _)); skip))
  have HS3 : Hid (Hp w [.cd C, .ob (w3.heap.size) 28 (enCells y)] ((w3.alloc (.cells (enCells enNil).toArray 28)).setRow (w3.heap.size) (enCells y).toArray)) := ((HS2.out).put 28 (enCells enNil)).row 1 rfl (enCells y)
  clear HS2
  generalize ((w3.alloc (.cells (enCells enNil).toArray 28)).setRow (w3.heap.size) (enCells y).toArray) = w4 at *
  generalize w3.heap.size = B1 at *
  obtain ⟨S, hS⟩ : ∃ S, enS y = S := ⟨_, rfl⟩
  have hz := enS_size Hy.out.ok
  have hsm := ent_small Hy.out.ok
  have hE := encE_ok Hy.out.ok
  have hD := dec_enc Hy.out.ok
  have hP := dec_short Hy.out.ok
  rw [hS] at hz hE hD hP
  have HE := Lib.hid (fun W => enc_at hE Hy.out.good W)
  have HD := Lib.hid (fun W => dec_at hD (by omega) W)
  have HP := Lib.hid hP
  have HSz : Hid (48 ≤ S.size ∧ S.size ≤ 10000) := Lib.hid (by omega)
  have HEq : Hid (∀ W, Sem.run Try.prog (binOp .eql 28 (.agg (enCells y).toArray) (.agg (enCells y).toArray)) W = .ok (.bool true) W) := Lib.hid (fun W => by have := run_eql (equal_en y y Hy.out.good Hy.out.good) W; rw [sameV_self] at this; exact this)
  clear hS hz hsm hE hD hP
  go_wp2_with (first | ((with_reducible refine wpList_load_ob 28 (.tmp 4) B1 (enCells y) 28 HUE.out ?_ ?_ ?_ ?_ ?_); (exact rfl); (exact (HS3.out).get 1 rfl); (exact rfl); (exact info_en); simp only [Act.put, List.setIfInBounds_toArray, List.set_cons_zero, List.set_cons_succ]))
  refine (HE.out _).mono ?_
  rintro e w5 ⟨rfl, hb⟩
  have HS4 : Hid (Hp w [.cd C, .ob B1 28 (enCells y)] w5) := (HS3.out).calls hb
  clear hb
  clear HS3
  clear HE
  go_wp2_with fail
  refine (HD.out _).mono ?_
  rintro e w6 ⟨rfl, hb⟩
  have HS5 : Hid (Hp w [.cd C, .ob B1 28 (enCells y)] w6) := (HS4.out).calls hb
  clear hb
  clear HS4
  clear HD
  go_upto_region 9 with (first | ((with_reducible refine wpList_alloc_ob 28 (enCells enNil) ?_ ?_); (exact alloc_en); simp only [Act.put, List.setIfInBounds_toArray, List.set_cons_zero, List.set_cons_succ]) | ((with_reducible refine wpList_store_ob 28 (.tmp 7) (w6.heap.size) (enCells y) (enCells enNil) 28 ?_ ?_ ?_ ?_ ?_ ?_ ?_); (exact rfl); (exact rfl); (exact ((HS5.out).put 28 (enCells enNil)).get 2 rfl); (exact info_en); (exact rfl); (exact (oneCell_en _)); skip))
  have HS6 : Hid (Hp w [.cd C, .ob B1 28 (enCells y), .ob (w6.heap.size) 28 (enCells y)] ((w6.alloc (.cells (enCells enNil).toArray 28)).setRow (w6.heap.size) (enCells y).toArray)) := ((HS5.out).put 28 (enCells enNil)).row 2 rfl (enCells y)
  clear HS5
  generalize ((w6.alloc (.cells (enCells enNil).toArray 28)).setRow (w6.heap.size) (enCells y).toArray) = w7 at *
  generalize w6.heap.size = B2 at *
  go_wp2_with fail
  refine (spoilt_any C S _ ((HS6.out).codes 0 rfl) (by have := HSz.out.2; omega)).mono ?_
  rintro e w8 ⟨T, rfl, hT, hb, hc⟩
  have HS7 : Hid (Hp w [.cd C, .ob B1 28 (enCells y), .ob B2 28 (enCells y)] w8) := (HS6.out).draws 0 rfl hb hc
  clear hb hc
  clear HS6
  have HT : Hid (T.size ≤ 20000) := Lib.hid (by have := HSz.out.2; omega)
  clear hT
  rcases hzn : decP T with ⟨z, n⟩
  have HDz := Lib.hid (fun W => dec_at hzn (by have := HT.out; omega) W)
  have HGz := Lib.hid (dec_good hzn (by have := HT.out; omega))
  have HIz : Hid (n = 0 → encE z = (T, 0)) := Lib.hid (fun h => by rw [h] at hzn; have := dec_inv hzn; rw [encE_ok this.1, this.2])
  clear hzn
  go_wp2_with fail
  refine (HDz.out _).mono ?_
  rintro e w9 ⟨rfl, hb⟩
  have HS8 : Hid (Hp w [.cd C, .ob B1 28 (enCells y), .ob B2 28 (enCells y)] w9) := (HS7.out).calls hb
  clear hb
  clear HS7
  clear HDz
  go_upto_region 11 with (first | ((with_reducible refine wpList_alloc_ob 28 (enCells enNil) ?_ ?_); (exact alloc_en); simp only [Act.put, List.setIfInBounds_toArray, List.set_cons_zero, List.set_cons_succ]) | ((with_reducible refine wpList_store_ob 28 (.tmp 10) (w9.heap.size) (enCells z) (enCells enNil) 28 ?_ ?_ ?_ ?_ ?_ ?_ ?_); (exact rfl); (exact rfl); (exact ((HS8.out).put 28 (enCells enNil)).get 3 rfl); (exact info_en); (exact rfl); (exact (oneCell_en _)); skip))
  have HS9 : Hid (Hp w [.cd C, .ob B1 28 (enCells y), .ob B2 28 (enCells y), .ob (w9.heap.size) 28 (enCells z)] ((w9.alloc (.cells (enCells enNil).toArray 28)).setRow (w9.heap.size) (enCells z).toArray)) := ((HS8.out).put 28 (enCells enNil)).row 3 rfl (enCells z)
  clear HS8
  generalize ((w9.alloc (.cells (enCells enNil).toArray 28)).setRow (w9.heap.size) (enCells z).toArray) = w10 at *
  generalize w9.heap.size = B3 at *
  rcases hum : encE z with ⟨U, m⟩
  have HEz := Lib.hid (fun W => enc_at hum HGz.out W)
  have HIz2 : Hid (n = 0 → U = T ∧ m = 0) := Lib.hid (fun h => by have := HIz.out h; rw [hum] at this; exact Prod.mk.inj this)
  clear hum
  go_wp2_with (first | ((with_reducible refine wpList_load_ob 28 (.tmp 10) B3 (enCells z) 28 HUE.out ?_ ?_ ?_ ?_ ?_); (exact rfl); (exact (HS9.out).get 3 rfl); (exact rfl); (exact info_en); simp only [Act.put, List.setIfInBounds_toArray, List.set_cons_zero, List.set_cons_succ]))
  refine (HEz.out _).mono ?_
  rintro e w11 ⟨rfl, hb⟩
  have HS10 : Hid (Hp w [.cd C, .ob B1 28 (enCells y), .ob B2 28 (enCells y), .ob B3 28 (enCells z)] w11) := (HS9.out).calls hb
  clear hb
  clear HS9
  clear HEz
  go_wp2_with fail
  refine (next_any C S.size _ ((HS10.out).codes 0 rfl) (by have := HSz.out.2; omega)).mono ?_
  rintro e w12 ⟨k, rfl, k0, k1, hb, hc⟩
  have HS11 : Hid (Hp w [.cd C, .ob B1 28 (enCells y), .ob B2 28 (enCells y), .ob B3 28 (enCells z)] w12) := (HS10.out).draws 0 rfl hb hc
  clear hb hc
  clear HS10
  obtain ⟨k, rfl⟩ := Int.eq_ofNat_of_zero_le k0
  have hk : k < S.size := by have := HSz.out.1; omega
  have HDk := Lib.hid (fun W => dec_at (HP.out k hk) (by rw [ByteArray.size_extract]; have := HSz.out.2; omega) W)
  have hk0 : (0 : Int) ≤ (k : Int) := by omega
  have hks : (k : Int) ≤ (S.size : Int) := by omega
  clear k0 k1 hk
  go_wp2_with fail
  refine (HDk.out _).mono ?_
  rintro e w13 ⟨rfl, hb⟩
  have HS12 : Hid (Hp w [.cd C, .ob B1 28 (enCells y), .ob B2 28 (enCells y), .ob B3 28 (enCells z)] w13) := (HS11.out).calls hb
  clear hb
  clear HS11
  clear HDk hk0 hks
  go_upto_region 13 with (first | ((with_reducible refine wpList_alloc_ob 28 (enCells enNil) ?_ ?_); (exact alloc_en); simp only [Act.put, List.setIfInBounds_toArray, List.set_cons_zero, List.set_cons_succ]) | ((with_reducible refine wpList_store_ob 28 (.tmp 14) (w13.heap.size) (enCells enNil) (enCells enNil) 28 ?_ ?_ ?_ ?_ ?_ ?_ ?_); (exact rfl); (exact rfl); (exact ((HS12.out).put 28 (enCells enNil)).get 4 rfl); (exact info_en); (exact rfl); (exact (oneCell_en _)); skip))
  have HS13 : Hid (Hp w [.cd C, .ob B1 28 (enCells y), .ob B2 28 (enCells y), .ob B3 28 (enCells z), .ob (w13.heap.size) 28 (enCells enNil)] ((w13.alloc (.cells (enCells enNil).toArray 28)).setRow (w13.heap.size) (enCells enNil).toArray)) := ((HS12.out).put 28 (enCells enNil)).row 4 rfl (enCells enNil)
  clear HS12
  generalize ((w13.alloc (.cells (enCells enNil).toArray 28)).setRow (w13.heap.size) (enCells enNil).toArray) = w14 at *
  generalize w13.heap.size = B4 at *
  have hEq := HEq.out
  clear HEq
  by_cases hn : n = 0
  · obtain ⟨rfl, rfl⟩ := HIz2.out hn
    have hn1 : (n != 0) = false := by rw [hn]; rfl
    clear hn
    go_wp2_with (first | ((with_reducible refine wpList_load_ob_w 28 (.tmp 4) B1 (enCells y) 28 HUE.out ?_ ?_ ?_ ?_ ?_ ?_); (exact rfl); (exact rfl); (exact (HS13.out).get 1 rfl); (exact rfl); (exact info_en); simp only [Act.put, List.setIfInBounds_toArray, List.set_cons_zero, List.set_cons_succ]) | ((with_reducible refine wpList_load_ob_w 28 (.tmp 7) B2 (enCells y) 28 HUE.out ?_ ?_ ?_ ?_ ?_ ?_); (exact rfl); (exact rfl); (exact (HS13.out).get 2 rfl); (exact rfl); (exact info_en); simp only [Act.put, List.setIfInBounds_toArray, List.set_cons_zero, List.set_cons_succ]))
    go_ret
    exact ⟨rfl, (HS13.out).old⟩
  · have hn1 : (n != 0) = true := by simpa using hn
    clear hn
    go_wp2_with (first | ((with_reducible refine wpList_load_ob_w 28 (.tmp 4) B1 (enCells y) 28 HUE.out ?_ ?_ ?_ ?_ ?_ ?_); (exact rfl); (exact rfl); (exact (HS13.out).get 1 rfl); (exact rfl); (exact info_en); simp only [Act.put, List.setIfInBounds_toArray, List.set_cons_zero, List.set_cons_succ]) | ((with_reducible refine wpList_load_ob_w 28 (.tmp 7) B2 (enCells y) 28 HUE.out ?_ ?_ ?_ ?_ ?_ ?_); (exact rfl); (exact rfl); (exact (HS13.out).get 2 rfl); (exact rfl); (exact info_en); simp only [Act.put, List.setIfInBounds_toArray, List.set_cons_zero, List.set_cons_succ]))
    go_ret
    exact ⟨rfl, (HS13.out).old⟩
end Go.Proofs.Ytgljhfofikjbdaa
