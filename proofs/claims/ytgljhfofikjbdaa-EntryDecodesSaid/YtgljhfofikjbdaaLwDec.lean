/- the law EntryDecodes: for every input the call returns true -/
import Derived.Test.YtgljhfofikjbdaaOm5
namespace Go.Proofs.Ytgljhfofikjbdaa
open Go.RowKit
set_option maxRecDepth 20000
set_option linter.unusedSimpArgs false
set_option linter.unusedVariables false

theorem neq_en (e : Ent) (h : GoodEn e) (W : World) : Sem.run Try.prog (binOp .neq 28 (.agg (enCells e).toArray) (.agg (enCells e).toArray)) W = .ok (.bool false) W := by
  have := run_neq (equal_en e e h h) W
  rw [sameV_self] at this
  exact this
theorem strs_at (l : List ByteArray) (j : Nat) (s : ByteArray) (h : l[j]? = some s) : (l.map Value.string)[j]? = some (.string s) := by rw [List.getElem?_map, h]; rfl
set_option maxHeartbeats 16000000 in
theorem decodes_any (x : Option Addr) (len cap : Nat) (zs : List Int) (t : ByteArray) (w : World) (hr : IsRow .u8 w x len cap zs) (ht : t.size ≤ maxLen) : Calls Try.prog 4 #[.slice x len cap, .string t] w fun e w' => e = .returned (.bool true) ∧ Below w.heap.size w w' := by
  have HR := Lib.hid hr
  unfold maxLen at ht
  obtain ⟨fsHUE, huHUE⟩ := under_en
  have HUE := Lib.hid huHUE
  clear huHUE
  have HUXs : Hid (Try.prog.underlying 42 = some (.slice 9)) := under_strs
  clear hr
  go_enter Try.func4, Try.ntmps4
  go_wp2_with fail
  refine (awake_en _).mono ?_
  rintro e w1 ⟨rfl, hb⟩
  have HS0 : Hid (Hp w [] w1) := (Hp.start w).calls hb
  clear hb
  by_cases hbig : 600 < (t.size : Int)
  · go_wp2_with fail
    go_ret
    exact ⟨rfl, HS0.out.old⟩
  have HBg : Hid (t.size ≤ 600) := Lib.hid (by omega)
  go_wp2_with fail
  clear hbig ht
  refine (new_hp 120 (by omega) HS0.out HR.out).mono ?_
  rintro e w2 ⟨rfl, hs⟩
  have HS1 : Hid (Hp w [.cd w1.heap.size] w2) := hs
  clear hs HS0 HR
  generalize w1.heap.size = C at *
  go_wp2_with fail
  refine (entry_any C _ ((HS1.out).codes 0 rfl)).mono ?_
  rintro e w3 ⟨y, rfl, Hy, hb, hc⟩
  have HS2 : Hid (Hp w [.cd C] w3) := (HS1.out).draws 0 rfl hb hc
  clear hb hc
  clear HS1
  obtain ⟨S, hS⟩ : ∃ S, enS y = S := ⟨_, rfl⟩
  have hz := enS_size Hy.out.ok
  have hsm := ent_small Hy.out.ok
  have hE := encE_ok Hy.out.ok
  rw [hS] at hz hE
  have HE := Lib.hid (fun W => renc_at hE Hy.out.good W)
  have HSz : Hid (48 ≤ S.size ∧ S.size ≤ 9000) := Lib.hid (by omega)
  clear hS hz hsm hE
  go_wp2_with fail
  refine (HE.out _).mono ?_
  rintro e w4 ⟨rfl, hb⟩
  have HS3 : Hid (Hp w [.cd C] w4) := (HS2.out).calls hb
  clear hb
  clear HS2
  clear HE
  go_wp2_with fail
  refine (spoilt_any C S _ ((HS3.out).codes 0 rfl) (by have := HSz.out.2; omega)).mono ?_
  rintro e w5 ⟨s1, rfl, hz, hb, hc⟩
  have HS4 : Hid (Hp w [.cd C] w5) := (HS3.out).draws 0 rfl hb hc
  clear hb hc
  clear HS3
  have Hs1 : Hid (s1.size ≤ 20000) := Lib.hid (by have := HSz.out.2; omega)
  clear hz
  go_wp2_with fail
  refine (spoilt_any C S _ ((HS4.out).codes 0 rfl) (by have := HSz.out.2; omega)).mono ?_
  rintro e w6 ⟨s2, rfl, hz, hb, hc⟩
  have HS5 : Hid (Hp w [.cd C] w6) := (HS4.out).draws 0 rfl hb hc
  clear hb hc
  clear HS4
  have Hs2 : Hid (s2.size ≤ 20000) := Lib.hid (by have := HSz.out.2; omega)
  clear hz
  go_wp2_with fail
  refine (spoilt_any C s2 _ ((HS5.out).codes 0 rfl) (by have := Hs2.out; omega)).mono ?_
  rintro e w7 ⟨s3, rfl, hz, hb, hc⟩
  have HS6 : Hid (Hp w [.cd C] w7) := (HS5.out).draws 0 rfl hb hc
  clear hb hc
  clear HS5
  have Hs3 : Hid (s3.size ≤ 30000) := Lib.hid (by have := Hs2.out; omega)
  clear hz
  have hst : S.size + t.size ≤ 9600 := by have := HSz.out.2; have := HBg.out; omega
  have hs49 : (S.size : Int) ≤ 9000 := by have := HSz.out.2; omega
  go_wp2_with fail
  refine (next_any C ((S.size : Int) + 1) _ ((HS6.out).codes 0 rfl) (by omega)).mono ?_
  rintro e w8 ⟨k, rfl, k0, k1, hb, hc⟩
  have HS7 : Hid (Hp w [.cd C] w8) := (HS6.out).draws 0 rfl hb hc
  clear hb hc
  clear HS6
  obtain ⟨k, rfl⟩ := Int.eq_ofNat_of_zero_le k0
  have hk0 : (0 : Int) ≤ (k : Int) := by omega
  have hks : (k : Int) ≤ (S.size : Int) := by omega
  clear k0 k1
  go_upto_region 6 with (first | ((with_reducible refine wpList_build_vals 42 6 elem_str HUXs.out [.string t, .string S, .string s1, .string s3, .string (S ++ t), .string (S.extract 0 k)] ?_ ?_ ?_ ?_ ?_ ?_); (exact (by intro v hv; simp only [List.mem_cons, List.not_mem_nil, or_false] at hv; rcases hv with rfl | rfl | rfl | rfl | rfl | rfl <;> rfl)); (exact Nat.succ_pos _); (simp only [List.length_cons, List.length_nil]; omega); (exact rfl); (simp only [List.map_toArray, List.map_cons, List.map_nil, List.zipIdx_cons, List.zipIdx_nil]; exact rfl); simp only [Act.put, List.setIfInBounds_toArray, List.set_cons_zero, List.set_cons_succ]))
  have HS8 : Hid (Hp w [.cd C, .ob (w8.heap.size) 9 ([.string t, .string S, .string s1, .string s3, .string (S ++ t), .string (S.extract 0 k)])] (w8.alloc (.cells ([.string t, .string S, .string s1, .string s3, .string (S ++ t), .string (S.extract 0 k)]).toArray 9))) := (HS7.out).put 9 ([.string t, .string S, .string s1, .string s3, .string (S ++ t), .string (S.extract 0 k)])
  clear HS7
  generalize (w8.alloc (.cells ([.string t, .string S, .string s1, .string s3, .string (S ++ t), .string (S.extract 0 k)]).toArray 9)) = w9 at *
  generalize w8.heap.size = B1 at *
  clear hk0 hks hs49

  have HZg : Hid (∀ u ∈ ([t, S, s1, s3, S ++ t, S.extract 0 k] : List ByteArray), u.size ≤ 1000000000) := by
    intro u hu
    have h1 := HSz.out.2
    have h2 := HBg.out
    have h3 := Hs1.out
    have h4 := Hs3.out
    simp only [List.mem_cons, List.not_mem_nil, or_false] at hu
    rcases hu with rfl | rfl | rfl | rfl | rfl | rfl
    · omega
    · omega
    · omega
    · omega
    · rw [ByteArray.size_append]; omega
    · rw [ByteArray.size_extract]; omega
  clear hst
  have HSd : Hid (Hp w [.cd C, .ob B1 9 (([t, S, s1, s3, S ++ t, S.extract 0 k] : List ByteArray).map Value.string)] w9) := HS8.out
  clear HS8
  have HLz : Hid (([t, S, s1, s3, S ++ t, S.extract 0 k] : List ByteArray).length = 6) := rfl
  generalize ([t, S, s1, s3, S ++ t, S.extract 0 k] : List ByteArray) = us at *
  have HS9 : Hid (Hp w [.ob B1 9 (us.map Value.string)] w9) := HSd.out.pull [1] rfl (pull_nd HSd.out.nd [1] rfl (by decide))
  clear HSd
  go_wp2_with fail
  go_loopw [54] (fun i wr => ∃ j : Nat, j ≤ 6 ∧ i = .int .i64 j ∧ Hp w [.ob B1 9 (us.map Value.string)] wr) (fun i _ => 6 - (intOf i).toNat)
  case atStart => exact ⟨0, by omega, rfl, HS9.out⟩
  case round =>
    obtain ⟨j, hj, rfl, hs⟩ := hrel
    clear HS9
    by_cases hlt : j < 6
    · have HS20 := Lib.hid hs
      clear hs
      have hjl : j < us.length := by rw [HLz.out]; exact hlt
      obtain ⟨u, hu⟩ : ∃ u, us[j] = u := ⟨_, rfl⟩
      have cj : wr.cell? ⟨B1, j, none⟩ = some (.string u) := HS20.out.at 0 rfl j (strs_at us j u (by rw [List.getElem?_eq_getElem hjl, hu]))
      have HUg : Hid (u.size ≤ 1000000000) := HZg.out u (by rw [← hu]; exact List.getElem_mem hjl)
      have hj4 : (j : Int) < 6 := by omega
      clear hu hjl
      rcases hD : decP u with ⟨X, jn⟩
      have HDp := Lib.hid (fun W => dec_at hD HUg.out W)
      have HDr := Lib.hid (fun W => rdec_at hD HUg.out W)
      have HGx := Lib.hid (dec_good hD HUg.out)
      clear hD
      have hjn : (jn != jn) = false := by simp
      go_upto_region 8 with (fail)
      clear cj hj4
      go_wp2_with fail
      refine (HDp.out _).mono ?_
      rintro e w10 ⟨rfl, hb⟩
      have HS10 : Hid (Hp w [.ob B1 9 (us.map Value.string)] w10) := (HS20.out).calls hb
      clear hb
      clear HS20
      go_upto_region 9 with (first | ((with_reducible refine wpList_alloc_ob 28 (enCells enNil) ?_ ?_); (exact alloc_en); simp only [Act.put, List.setIfInBounds_toArray, List.set_cons_zero, List.set_cons_succ]) | ((with_reducible refine wpList_store_ob 28 (.tmp 10) (w10.heap.size) (enCells X) (enCells enNil) 28 ?_ ?_ ?_ ?_ ?_ ?_ ?_); (exact rfl); (exact rfl); (exact ((HS10.out).put 28 (enCells enNil)).get 1 rfl); (exact info_en); (exact rfl); (exact (oneCell_en _)); skip))
      have HS11 : Hid (Hp w [.ob B1 9 (us.map Value.string), .ob (w10.heap.size) 28 (enCells X)] ((w10.alloc (.cells (enCells enNil).toArray 28)).setRow (w10.heap.size) (enCells X).toArray)) := ((HS10.out).put 28 (enCells enNil)).row 1 rfl (enCells X)
      clear HS10
      generalize ((w10.alloc (.cells (enCells enNil).toArray 28)).setRow (w10.heap.size) (enCells X).toArray) = w11 at *
      generalize w10.heap.size = B2 at *
      go_wp2_with fail
      refine (HDr.out _).mono ?_
      rintro e w12 ⟨rfl, hb⟩
      have HS12 : Hid (Hp w [.ob B1 9 (us.map Value.string), .ob B2 28 (enCells X)] w12) := (HS11.out).calls hb
      clear hb
      clear HS11
      go_upto_region 10 with (first | ((with_reducible refine wpList_alloc_ob 28 (enCells enNil) ?_ ?_); (exact alloc_en); simp only [Act.put, List.setIfInBounds_toArray, List.set_cons_zero, List.set_cons_succ]) | ((with_reducible refine wpList_store_ob 28 (.tmp 12) (w12.heap.size) (enCells X) (enCells enNil) 28 ?_ ?_ ?_ ?_ ?_ ?_ ?_); (exact rfl); (exact rfl); (exact ((HS12.out).put 28 (enCells enNil)).get 2 rfl); (exact info_en); (exact rfl); (exact (oneCell_en _)); skip))
      have HS13 : Hid (Hp w [.ob B1 9 (us.map Value.string), .ob B2 28 (enCells X), .ob (w12.heap.size) 28 (enCells X)] ((w12.alloc (.cells (enCells enNil).toArray 28)).setRow (w12.heap.size) (enCells X).toArray)) := ((HS12.out).put 28 (enCells enNil)).row 2 rfl (enCells X)
      clear HS12
      generalize ((w12.alloc (.cells (enCells enNil).toArray 28)).setRow (w12.heap.size) (enCells X).toArray) = w13 at *
      generalize w12.heap.size = B3 at *
      have hXX := neq_en X HGx.out
      have hj4 : (j : Int) < 6 := by omega
      go_wp2_with (first | ((with_reducible refine wpList_load_ob 28 (.tmp 10) B2 (enCells X) 28 HUE.out ?_ ?_ ?_ ?_ ?_); (exact rfl); (exact (HS13.out).get 1 rfl); (exact rfl); (exact info_en); simp only [Act.put, List.setIfInBounds_toArray, List.set_cons_zero, List.set_cons_succ]) | ((with_reducible refine wpList_load_ob 28 (.tmp 12) B3 (enCells X) 28 HUE.out ?_ ?_ ?_ ?_ ?_); (exact rfl); (exact (HS13.out).get 2 rfl); (exact rfl); (exact info_en); simp only [Act.put, List.setIfInBounds_toArray, List.set_cons_zero, List.set_cons_succ]))
      go_roundw
      have HS14 : Hid (Hp w [.ob B1 9 (us.map Value.string)] w13) := HS13.out.pull [0] rfl (pull_nd HS13.out.nd [0] rfl (by decide))
      clear HS13
      case rel => exact ⟨j + 1, by omega, by go_num, HS14.out⟩
      case measure => simp [intOf]; omega
    · go_wp2_with fail
      go_ret
      exact ⟨rfl, hs.old⟩
end Go.Proofs.Ytgljhfofikjbdaa
