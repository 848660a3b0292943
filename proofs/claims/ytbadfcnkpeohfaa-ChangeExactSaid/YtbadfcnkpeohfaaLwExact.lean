/- the law ChangeExact -/
import Derived.Test.YtbadfcnkpeohfaaChPair
namespace Go.Proofs.Ytbadfcnkpeohfaa
open Go.RowKit

set_option maxHeartbeats 16000000 in
set_option maxRecDepth 20000 in
theorem exact_any (x : Option Addr) (len cap : Nat) (zs : List Int) (p : Pg) (a b : Chg) (w : World) (hr : IsRow .u8 w x len cap zs) (hp : Good p) (ha : GoodCh a) (hb : GoodCh b) :
    Calls Try.prog 3 #[.slice x len cap, .agg (pgCells p).toArray, .agg (chCells a).toArray, .agg (chCells b).toArray] w fun e w' => e = .returned (.bool true) ∧ Below w.heap.size w w' := by
  have HR := Lib.hid hr
  clear hr
  obtain ⟨fs, hu⟩ := under_ch
  have HU := Lib.hid hu
  clear hu
  obtain ⟨fp, hu⟩ := under_page
  have HUP := Lib.hid hu
  clear hu
  obtain ⟨fc, hu⟩ := under_cell
  have HUC := Lib.hid hu
  clear hu
  have HUPR : Hid (Try.prog.underlying 36 = some (.array 2 29)) := under_pr
  have HUPRS : Hid (Try.prog.underlying 38 = some (.slice 36)) := under_prs
  have HUPGS : Hid (Try.prog.underlying 45 = some (.slice 27)) := under_pgs
  have HGp := Lib.hid hp
  have HPl := Lib.hid hp.len
  have HGa := Lib.hid ha
  have HGb := Lib.hid hb
  clear hp ha hb
  have h3 := (((Hp.start w).put 27 (pgCells p)).put 29 (chCells a)).put 29 (chCells b)
  simp only [World.size_alloc, List.nil_append, List.cons_append] at h3
  have HB0 := Lib.hid h3
  clear h3
  go_enter Try.func3, Try.ntmps3
  go_wp2_with fail
  refine (awake_ch _).mono ?_
  rintro e w1 ⟨rfl, hb⟩
  have HS0 : Hid (Hp w [.ob w.heap.size 27 (pgCells p), .ob (w.heap.size + 1) 29 (chCells a), .ob (w.heap.size + 1 + 1) 29 (chCells b)] w1) := HB0.out.calls hb
  clear hb
  go_wp2_with fail
  refine (new_hp 160 (by omega) HS0.out HR.out).mono ?_
  rintro e w2 ⟨rfl, hs⟩
  have HS1 : Hid (Hp w [.ob w.heap.size 27 (pgCells p), .ob (w.heap.size + 1) 29 (chCells a), .ob (w.heap.size + 1 + 1) 29 (chCells b), .cd w1.heap.size] w2) := hs
  clear hs HS0 HR
  generalize w1.heap.size = C at *
  go_wp2_with fail
  refine (next_any C 3 _ ((HS1.out).codes 3 rfl) (by omega)).mono ?_
  rintro e w3 ⟨pid, rfl, id0, id1, hb, hc⟩
  have HS1 : Hid (Hp w [.ob (w.heap.size) 27 (pgCells p), .ob (w.heap.size + 1) 29 (chCells a), .ob (w.heap.size + 1 + 1) 29 (chCells b), .cd C] w3) := (HS1.out).draws 3 rfl hb hc
  clear hb hc
  have HId : Hid (0 ≤ pid ∧ pid < 64) := ⟨id0, by omega⟩
  clear id0 id1
  go_wp2_with fail
  refine (draw_page C pid _ ((HS1.out).codes 3 rfl)).mono ?_
  rintro e w4 ⟨q, rfl, hq, hb, hc⟩
  have HS2 : Hid (Hp w [.ob (w.heap.size) 27 (pgCells p), .ob (w.heap.size + 1) 29 (chCells a), .ob (w.heap.size + 1 + 1) 29 (chCells b), .cd C] w4) := (HS1.out).draws 3 rfl hb hc
  clear hb hc
  clear HS1
  have HQ := Lib.hid hq
  have HQl := Lib.hid hq.len
  have HGq := Lib.hid (hq.good HId.out.1 HId.out.2)
  clear hq
  go_wp2_with (first | ((with_reducible refine wpList_alloc_ob 27 (pgCells (newPg 0)) ?_ ?_); (exact alloc_page); simp only [Act.put, List.setIfInBounds_toArray, List.set_cons_zero, List.set_cons_succ]) | ((with_reducible refine wpList_store_ob 27 (.tmp 10) (w4.heap.size) (pgCells q) (pgCells (newPg 0)) 27 ?_ ?_ ?_ ?_ ?_ ?_ ?_); (exact rfl); (exact rfl); (exact ((HS2.out).put 27 (pgCells (newPg 0))).get 4 rfl); (exact (info_pgc HQl.out)); (exact (by rw [pgCells_len HQl.out, pgCells_len (p := (newPg 0)) rfl])); (exact (oneCell_pg _)); skip))
  refine (change_any C _ ((((HS2.out).put 27 (pgCells (newPg 0))).row 4 rfl (pgCells q)).codes 3 rfl)).mono ?_
  rintro e w5 ⟨xc, rfl, hxc, hb, hc⟩
  have HS3 : Hid (Hp w [.ob (w.heap.size) 27 (pgCells p), .ob (w.heap.size + 1) 29 (chCells a), .ob (w.heap.size + 1 + 1) 29 (chCells b), .cd C, .ob (w4.heap.size) 27 (pgCells q)] w5) := (((HS2.out).put 27 (pgCells (newPg 0))).row 4 rfl (pgCells q)).draws 3 rfl hb hc
  clear hb hc
  clear HS2
  generalize w4.heap.size = B1 at *
  obtain ⟨k, hk⟩ := Int.eq_ofNat_of_zero_le hxc.slot0
  obtain ⟨xp, xs, xb, xa⟩ := xc
  simp only at hk
  subst hk
  have HXc := Lib.hid hxc
  clear hxc
  go_wp2_with fail
  refine (change_any C _ ((HS3.out).codes 3 rfl)).mono ?_
  rintro e w6 ⟨yc, rfl, hyc, hb, hc⟩
  have HS4 : Hid (Hp w [.ob (w.heap.size) 27 (pgCells p), .ob (w.heap.size + 1) 29 (chCells a), .ob (w.heap.size + 1 + 1) 29 (chCells b), .cd C, .ob B1 27 (pgCells q)] w6) := (HS3.out).draws 3 rfl hb hc
  clear hb hc
  clear HS3
  obtain ⟨yp_, ys, yb, ya⟩ := yc
  have HYc := Lib.hid hyc
  clear hyc
  go_upto_region 6 with (first | ((with_reducible refine wpList_alloc_ob 29 (chCells chNil) ?_ ?_); (exact alloc_ch); simp only [Act.put, List.setIfInBounds_toArray, List.set_cons_zero, List.set_cons_succ]) | ((with_reducible refine wpList_store_ob 29 (.tmp 11) (w6.heap.size) (chCells ⟨xp, (k : Int), xb, xa⟩) (chCells chNil) 29 ?_ ?_ ?_ ?_ ?_ ?_ ?_); (exact rfl); (exact rfl); (exact (((HS4.out).put 29 (chCells chNil)).put 29 (chCells chNil)).get 5 rfl); (exact info_ch); (exact rfl); (exact (oneCell_ch _)); skip) | ((with_reducible refine wpList_store_ob 29 (.tmp 12) ((w6.alloc (.cells (chCells chNil).toArray 29)).heap.size) (chCells ⟨yp_, ys, yb, ya⟩) (chCells chNil) 29 ?_ ?_ ?_ ?_ ?_ ?_ ?_); (exact rfl); (exact rfl); (exact ((((HS4.out).put 29 (chCells chNil)).put 29 (chCells chNil)).row 5 rfl (chCells ⟨xp, (k : Int), xb, xa⟩)).get 6 rfl); (exact info_ch); (exact rfl); (exact (oneCell_ch _)); skip))
  have HS5 : Hid (Hp w [.ob (w.heap.size) 27 (pgCells p), .ob (w.heap.size + 1) 29 (chCells a), .ob (w.heap.size + 1 + 1) 29 (chCells b), .cd C, .ob B1 27 (pgCells q), .ob (w6.heap.size) 29 (chCells ⟨xp, (k : Int), xb, xa⟩), .ob ((w6.alloc (.cells (chCells chNil).toArray 29)).heap.size) 29 (chCells ⟨yp_, ys, yb, ya⟩)] ((((w6.alloc (.cells (chCells chNil).toArray 29)).alloc (.cells (chCells chNil).toArray 29)).setRow (w6.heap.size) (chCells ⟨xp, (k : Int), xb, xa⟩).toArray).setRow ((w6.alloc (.cells (chCells chNil).toArray 29)).heap.size) (chCells ⟨yp_, ys, yb, ya⟩).toArray)) := ((((HS4.out).put 29 (chCells chNil)).put 29 (chCells chNil)).row 5 rfl (chCells ⟨xp, (k : Int), xb, xa⟩)).row 6 rfl (chCells ⟨yp_, ys, yb, ya⟩)
  clear HS4
  generalize ((((w6.alloc (.cells (chCells chNil).toArray 29)).alloc (.cells (chCells chNil).toArray 29)).setRow (w6.heap.size) (chCells ⟨xp, (k : Int), xb, xa⟩).toArray).setRow ((w6.alloc (.cells (chCells chNil).toArray 29)).heap.size) (chCells ⟨yp_, ys, yb, ya⟩).toArray) = w7 at *
  generalize (w6.alloc (.cells (chCells chNil).toArray 29)).heap.size = B2 at *
  generalize w6.heap.size = B3 at *
  have hk16 : k < 16 := by have := HXc.out.slot1; simp only at this; omega
  have hkl : k < q.cells.length := by rw [HQl.out]; exact hk16
  obtain ⟨c, hcx⟩ : ∃ c, q.cells[k] = c := ⟨_, rfl⟩
  have HK0 : Hid ((pgCells q)[2 + k * 2]? = some (.bool c.set)) := by rw [← hcx]; exact (pgCells_at q k hkl).1
  have HK1 : Hid ((pgCells q)[2 + k * 2 + 1]? = some (.string c.data)) := by rw [← hcx]; exact (pgCells_at q k hkl).2
  have HCs : Hid (c.data.size ≤ maxLen) := by show _ ≤ _; rw [← hcx]; exact HGq.out.data _ (List.getElem_mem hkl)
  have HXa : Hid (xa.data.size ≤ maxLen) := HXc.out.good.after
  have HX : Hid (GoodCh ⟨q.id, (k : Int), c, xa⟩) := ⟨HGq.out.id, HXc.out.good.slot, HCs.out, HXa.out⟩
  have HY0 : Hid (GoodCh ⟨yp_, ys, yb, ya⟩) := HYc.out.good
  have HY1 : Hid (GoodCh ⟨q.id, (k : Int), xa, ya⟩) := ⟨HGq.out.id, HXc.out.good.slot, HXa.out, HYc.out.good.after⟩
  clear hcx hkl
  have hk0 : (0 : Int) ≤ (k : Int) := by omega
  have hki : (k : Int) < 16 := by omega
  have l0 : w7.cell? ⟨B1, 0, none⟩ = some (.int .i64 q.id) := (HS5.out).at 4 rfl (0) rfl
  have l1 : w7.cell? ⟨B3, 1, none⟩ = some (.int .i64 (k : Int)) := (HS5.out).at 5 rfl (1) rfl
  have l2 : w7.cell? ⟨B1, 2 + k * 2, none⟩ = some (.bool c.set) := (HS5.out).at 4 rfl (2 + k * 2) HK0.out
  have l3 : w7.cell? ⟨B1, 2 + k * 2 + 1, none⟩ = some (.string c.data) := (HS5.out).at 4 rfl (2 + k * 2 + 1) HK1.out
  have s0 : w7.cell? ⟨B3, 0, none⟩ = some (.int .i64 xp) := (HS5.out).at 5 rfl 0 rfl
  have f0 : w7.frozen? ⟨B3, 0, none⟩ = false := (HS5.out).frozen 5 rfl 0
  have s2 : w7.cell? ⟨B3, 2, none⟩ = some (.bool xb.set) := (HS5.out).at 5 rfl 2 rfl
  have f2 : w7.frozen? ⟨B3, 2, none⟩ = false := (HS5.out).frozen 5 rfl 2
  have s3 : w7.cell? ⟨B3, 3, none⟩ = some (.string xb.data) := (HS5.out).at 5 rfl 3 rfl
  have f3 : w7.frozen? ⟨B3, 3, none⟩ = false := (HS5.out).frozen 5 rfl 3
  have ne4 : B3 ≠ B1 := (HS5.out).ne 5 4 rfl rfl (by decide) rfl rfl
  go_region_held3 (fun w' => w'.cell? ⟨B1, 0, none⟩ = some (.int .i64 q.id) ∧ w'.cell? ⟨B3, 1, none⟩ = some (.int .i64 (k : Int)) ∧ w'.cell? ⟨B1, 2 + k * 2, none⟩ = some (.bool c.set) ∧ w'.cell? ⟨B1, 2 + k * 2 + 1, none⟩ = some (.string c.data)) (first | (simp [*, World.cell?_setCell_far]; done) | (simp [*, World.cell?_setCell_far, World.cell?_setCell_other]; done)) (fail)
  rename_i hHeld
  clear hHeld l0 l1 l2 l3 s0 f0 s2 f2 s3 f3 ne4
  have HS6 : Hid (Hp w [.ob (w.heap.size) 27 (pgCells p), .ob (w.heap.size + 1) 29 (chCells a), .ob (w.heap.size + 1 + 1) 29 (chCells b), .cd C, .ob B1 27 (pgCells q), .ob B3 29 (chCells ⟨q.id, (k : Int), c, xa⟩), .ob B2 29 (chCells ⟨yp_, ys, yb, ya⟩)] (((((w7).setCell ⟨B3, 0, none⟩ (.int .i64 q.id)).setCell ⟨B3, 2, none⟩ (.bool c.set)).setCell ⟨B3, 3, none⟩ (.string c.data)).drew)) := ((((HS5.out).set 5 rfl 0 (.int .i64 q.id)).set 5 rfl 2 (.bool c.set)).set 5 rfl 3 (.string c.data)).drew
  clear HS5
  generalize ((((w7).setCell ⟨B3, 0, none⟩ (.int .i64 q.id)).setCell ⟨B3, 2, none⟩ (.bool c.set)).setCell ⟨B3, 3, none⟩ (.string c.data)).drew = w8 at *
  go_wp2_with fail
  refine (next_any C 2 _ ((HS6.out).codes 3 rfl) (by omega)).mono ?_
  rintro e w9 ⟨n, rfl, n0, n1, hb, hc⟩
  have HS7 : Hid (Hp w [.ob (w.heap.size) 27 (pgCells p), .ob (w.heap.size + 1) 29 (chCells a), .ob (w.heap.size + 1 + 1) 29 (chCells b), .cd C, .ob B1 27 (pgCells q), .ob B3 29 (chCells ⟨q.id, (k : Int), c, xa⟩), .ob B2 29 (chCells ⟨yp_, ys, yb, ya⟩)] w9) := (HS6.out).draws 3 rfl hb hc
  clear hb hc
  clear HS6
  clear n0 n1
  go_upto_if 48 with (fail)
  go_cut [] (fun wx => ∃ yy : Chg, GoodCh yy ∧ Hp w [.ob (w.heap.size) 27 (pgCells p), .ob (w.heap.size + 1) 29 (chCells a), .ob (w.heap.size + 1 + 1) 29 (chCells b), .cd C, .ob B1 27 (pgCells q), .ob B3 29 (chCells ⟨q.id, (k : Int), c, xa⟩), .ob B2 29 (chCells yy)] wx)
  case first =>
    by_cases hn0 : n = 0
    · subst hn0
      go_wp2_with fail
      have l0 : w9.cell? ⟨B3, 0, none⟩ = some (.int .i64 q.id) := (HS7.out).at 5 rfl (0) rfl
      have l1 : w9.cell? ⟨B3, 1, none⟩ = some (.int .i64 (k : Int)) := (HS7.out).at 5 rfl (1) rfl
      have l2 : w9.cell? ⟨B3, 4, none⟩ = some (.bool xa.set) := (HS7.out).at 5 rfl (4) rfl
      have l3 : w9.cell? ⟨B3, 5, none⟩ = some (.string xa.data) := (HS7.out).at 5 rfl (5) rfl
      have s0 : w9.cell? ⟨B2, 0, none⟩ = some (.int .i64 yp_) := (HS7.out).at 6 rfl 0 rfl
      have f0 : w9.frozen? ⟨B2, 0, none⟩ = false := (HS7.out).frozen 6 rfl 0
      have s1 : w9.cell? ⟨B2, 1, none⟩ = some (.int .i64 ys) := (HS7.out).at 6 rfl 1 rfl
      have f1 : w9.frozen? ⟨B2, 1, none⟩ = false := (HS7.out).frozen 6 rfl 1
      have s2 : w9.cell? ⟨B2, 2, none⟩ = some (.bool yb.set) := (HS7.out).at 6 rfl 2 rfl
      have f2 : w9.frozen? ⟨B2, 2, none⟩ = false := (HS7.out).frozen 6 rfl 2
      have s3 : w9.cell? ⟨B2, 3, none⟩ = some (.string yb.data) := (HS7.out).at 6 rfl 3 rfl
      have f3 : w9.frozen? ⟨B2, 3, none⟩ = false := (HS7.out).frozen 6 rfl 3
      have ne5 : B2 ≠ B3 := (HS7.out).ne 6 5 rfl rfl (by decide) rfl rfl
      go_region_held3 (fun w' => w'.cell? ⟨B3, 0, none⟩ = some (.int .i64 q.id) ∧ w'.cell? ⟨B3, 1, none⟩ = some (.int .i64 (k : Int)) ∧ w'.cell? ⟨B3, 4, none⟩ = some (.bool xa.set) ∧ w'.cell? ⟨B3, 5, none⟩ = some (.string xa.data)) (first | (simp [*, World.cell?_setCell_far]; done) | (simp [*, World.cell?_setCell_far, World.cell?_setCell_other]; done)) (fail)
      rename_i hHeld
      clear hHeld l0 l1 l2 l3 s0 f0 s1 f1 s2 f2 s3 f3 ne5
      have HS8 : Hid (Hp w [.ob (w.heap.size) 27 (pgCells p), .ob (w.heap.size + 1) 29 (chCells a), .ob (w.heap.size + 1 + 1) 29 (chCells b), .cd C, .ob B1 27 (pgCells q), .ob B3 29 (chCells ⟨q.id, (k : Int), c, xa⟩), .ob B2 29 (chCells ⟨q.id, (k : Int), xa, ya⟩)] ((((((w9).setCell ⟨B2, 0, none⟩ (.int .i64 q.id)).setCell ⟨B2, 1, none⟩ (.int .i64 (k : Int))).setCell ⟨B2, 2, none⟩ (.bool xa.set)).setCell ⟨B2, 3, none⟩ (.string xa.data)).drew)) := (((((HS7.out).set 6 rfl 0 (.int .i64 q.id)).set 6 rfl 1 (.int .i64 (k : Int))).set 6 rfl 2 (.bool xa.set)).set 6 rfl 3 (.string xa.data)).drew
      clear HS7
      generalize (((((w9).setCell ⟨B2, 0, none⟩ (.int .i64 q.id)).setCell ⟨B2, 1, none⟩ (.int .i64 (k : Int))).setCell ⟨B2, 2, none⟩ (.bool xa.set)).setCell ⟨B2, 3, none⟩ (.string xa.data)).drew = w10 at *
      go_wp2_with fail
      go_meet
      exact ⟨_, HY1.out, HS8.out⟩
    · have hnb : (n == 0) = false := by rw [beq_eq_false_iff_ne]; exact hn0
      clear hn0
      go_wp2_with fail
      go_meet
      exact ⟨_, HY0.out, HS7.out⟩
  case rest =>
    obtain ⟨yy, hyy, hs⟩ := hcut
    have HYy := Lib.hid hyy
    have HSc : Hid (Hp w [.ob (w.heap.size) 27 (pgCells p), .ob (w.heap.size + 1) 29 (chCells a), .ob (w.heap.size + 1 + 1) 29 (chCells b), .cd C, .ob B1 27 (pgCells q), .ob B3 29 (chCells ⟨q.id, (k : Int), c, xa⟩), .ob B2 29 (chCells yy)] wc) := hs
    clear hs hyy HS7
    clear HK0 HK1 HCs HXa HY0 HY1 HXc HYc hk0 hki hk16
    generalize (⟨q.id, (k : Int), c, xa⟩ : Chg) = xx at *
    go_upto_region 9 with (fail)
    refine wp_region_held_drew (S := fun w' => Hold w.heap.size [.ob (w.heap.size + 1) 29 (chCells a), .ob (w.heap.size + 1 + 1) 29 (chCells b), .ob B3 29 (chCells xx), .ob B2 29 (chCells yy)] w') (by kernel_rfl) ((HSc.out).drew.pick [1, 2, 5, 6] rfl) (fun hHeld => ?_)
    refine wpAnyH_take (i := 0) (oi := { dst := some 58, op := Op.load 29 (Operand.tmp 6), type := 29, pos := "law.go:30", after := #[], guard := none }) rfl (by kernel_rfl) (by kernel_rfl) (by kernel_rfl) (fun _ _ _ h => h) (yieldsIf_load_mid (by rfl) 29 (.tmp 6) rfl (w.heap.size + 1) 0 rfl (chCells a) _ (fun _ h => h.whole 0 rfl) HU.out rfl (info_ch)) hHeld ?_
    try simp only [Act.put, List.setIfInBounds_toArray, List.set_cons_zero, List.set_cons_succ]
    refine wpAnyH_take (i := 1) (oi := { dst := some 59, op := Op.load 29 (Operand.tmp 7), type := 29, pos := "law.go:30", after := #[], guard := none }) rfl (by kernel_rfl) (by kernel_rfl) (by kernel_rfl) (fun _ _ _ h => h) (yieldsIf_load_mid (by rfl) 29 (.tmp 7) rfl (w.heap.size + 1 + 1) 0 rfl (chCells b) _ (fun _ h => h.whole 1 rfl) HU.out rfl (info_ch)) hHeld ?_
    try simp only [Act.put, List.setIfInBounds_toArray, List.set_cons_zero, List.set_cons_succ]
    refine wpAnyH_take (i := 2) (oi := { dst := some 60, op := Op.build 36 #[(0, Operand.tmp 58), (1, Operand.tmp 59)], type := 36, pos := "law.go:30", after := #[{ on := 0, ground := Ground.data }, { on := 1, ground := Ground.data }], guard := none }) rfl (by kernel_rfl) (by kernel_rfl) (by kernel_rfl) (fun _ _ _ h => h) (yieldsIf_build_v (by rfl) 36 (.agg (prCells (a, b)).toArray) rfl (fun W => by simp only [List.map_toArray, List.map_cons, List.map_nil]; exact (build_pr a b) W)) hHeld ?_
    try simp only [Act.put, List.setIfInBounds_toArray, List.set_cons_zero, List.set_cons_succ]
    refine wpAnyH_take (i := 3) (oi := { dst := some 61, op := Op.load 29 (Operand.tmp 11), type := 29, pos := "law.go:30", after := #[], guard := none }) rfl (by kernel_rfl) (by kernel_rfl) (by kernel_rfl) (fun _ _ _ h => h) (yieldsIf_load_mid (by rfl) 29 (.tmp 11) rfl B3 0 rfl (chCells xx) _ (fun _ h => h.whole 2 rfl) HU.out rfl (info_ch)) hHeld ?_
    try simp only [Act.put, List.setIfInBounds_toArray, List.set_cons_zero, List.set_cons_succ]
    refine wpAnyH_take (i := 4) (oi := { dst := some 62, op := Op.load 29 (Operand.tmp 12), type := 29, pos := "law.go:30", after := #[], guard := none }) rfl (by kernel_rfl) (by kernel_rfl) (by kernel_rfl) (fun _ _ _ h => h) (yieldsIf_load_mid (by rfl) 29 (.tmp 12) rfl B2 0 rfl (chCells yy) _ (fun _ h => h.whole 3 rfl) HU.out rfl (info_ch)) hHeld ?_
    try simp only [Act.put, List.setIfInBounds_toArray, List.set_cons_zero, List.set_cons_succ]
    refine wpAnyH_take (i := 5) (oi := { dst := some 63, op := Op.build 36 #[(0, Operand.tmp 61), (1, Operand.tmp 62)], type := 36, pos := "law.go:30", after := #[{ on := 3, ground := Ground.data }, { on := 4, ground := Ground.data }], guard := none }) rfl (by kernel_rfl) (by kernel_rfl) (by kernel_rfl) (fun _ _ _ h => h) (yieldsIf_build_v (by rfl) 36 (.agg (prCells (xx, yy)).toArray) rfl (fun W => by simp only [List.map_toArray, List.map_cons, List.map_nil]; exact (build_pr xx yy) W)) hHeld ?_
    try simp only [Act.put, List.setIfInBounds_toArray, List.set_cons_zero, List.set_cons_succ]
    refine wpAnyH_take (i := 6) (oi := { dst := some 64, op := Op.move (Operand.tmp 9), type := 31, pos := "law.go:30", after := #[], guard := none }) (v := ?q7v) rfl (by kernel_rfl) (by kernel_rfl) (by kernel_rfl) (fun _ _ _ h => h) (Or.inl ⟨by rfl, ?q7h⟩) hHeld ?q7r
    case q7h => (intro wq hSw; clear hSw; go_simp; try with_reducible rfl)
    try simp only [Act.put, List.setIfInBounds_toArray, List.set_cons_zero, List.set_cons_succ]
    refine wpAnyH_take (i := 7) (oi := { dst := some 65, op := Op.load 29 (Operand.tmp 11), type := 29, pos := "law.go:30", after := #[], guard := none }) rfl (by kernel_rfl) (by kernel_rfl) (by kernel_rfl) (fun _ _ _ h => h) (yieldsIf_load_mid (by rfl) 29 (.tmp 11) rfl B3 0 rfl (chCells xx) _ (fun _ h => h.whole 2 rfl) HU.out rfl (info_ch)) hHeld ?_
    try simp only [Act.put, List.setIfInBounds_toArray, List.set_cons_zero, List.set_cons_succ]
    refine wpAnyH_take (i := 9) (oi := { dst := some 67, op := Op.load 29 (Operand.tmp 12), type := 29, pos := "law.go:30", after := #[], guard := none }) rfl (by kernel_rfl) (by kernel_rfl) (by kernel_rfl) (fun _ _ _ h => h) (yieldsIf_load_mid (by rfl) 29 (.tmp 12) rfl B2 0 rfl (chCells yy) _ (fun _ h => h.whole 3 rfl) HU.out rfl (info_ch)) hHeld ?_
    try simp only [Act.put, List.setIfInBounds_toArray, List.set_cons_zero, List.set_cons_succ]
    refine wpAnyH_take (i := 11) (oi := { dst := some 69, op := Op.load 29 (Operand.tmp 11), type := 29, pos := "law.go:30", after := #[], guard := none }) rfl (by kernel_rfl) (by kernel_rfl) (by kernel_rfl) (fun _ _ _ h => h) (yieldsIf_load_mid (by rfl) 29 (.tmp 11) rfl B3 0 rfl (chCells xx) _ (fun _ h => h.whole 2 rfl) HU.out rfl (info_ch)) hHeld ?_
    try simp only [Act.put, List.setIfInBounds_toArray, List.set_cons_zero, List.set_cons_succ]
    refine wpAnyH_take (i := 12) (oi := { dst := some 70, op := Op.move (Operand.tmp 9), type := 31, pos := "law.go:30", after := #[], guard := none }) (v := ?q11v) rfl (by kernel_rfl) (by kernel_rfl) (by kernel_rfl) (fun _ _ _ h => h) (Or.inl ⟨by rfl, ?q11h⟩) hHeld ?q11r
    case q11h => (intro wq hSw; clear hSw; go_simp; try with_reducible rfl)
    try simp only [Act.put, List.setIfInBounds_toArray, List.set_cons_zero, List.set_cons_succ]
    refine wpAnyH_take (i := 13) (oi := { dst := some 71, op := Op.load 29 (Operand.tmp 12), type := 29, pos := "law.go:30", after := #[], guard := none }) rfl (by kernel_rfl) (by kernel_rfl) (by kernel_rfl) (fun _ _ _ h => h) (yieldsIf_load_mid (by rfl) 29 (.tmp 12) rfl B2 0 rfl (chCells yy) _ (fun _ h => h.whole 3 rfl) HU.out rfl (info_ch)) hHeld ?_
    try simp only [Act.put, List.setIfInBounds_toArray, List.set_cons_zero, List.set_cons_succ]
    refine wpAnyH_take (i := 18) (oi := { dst := some 76, op := Op.move (Operand.const (Value.int IntKind.i64 0)), type := 3, pos := "law.go:30", after := #[], guard := none }) (v := ?q13v) rfl (by kernel_rfl) (by kernel_rfl) (by kernel_rfl) (fun _ _ _ h => h) (Or.inl ⟨by rfl, ?q13h⟩) hHeld ?q13r
    case q13h => (intro wq hSw; clear hSw; go_simp; try with_reducible rfl)
    try simp only [Act.put, List.setIfInBounds_toArray, List.set_cons_zero, List.set_cons_succ]
    refine wpAnyH_ready (rs := [8]) (by kernel_rfl) (by simp) ?_
    refine AllReadyH.cons (o := { dst := some 66, op := Op.call { callee := Callee.value (Operand.func 12), args := #[Operand.tmp 64, Operand.tmp 65], argTypes := #[31, 29] }, type := 29, pos := "law.go:30", after := #[{ on := 6, ground := Ground.data }, { on := 7, ground := Ground.data }], guard := none }) rfl (fun K hK => ?_) (AllReadyH.nil)
    go_simp
    go_wp2_with (go_at_call 12; refine (oddChange_any C xx _ (((HSc.out).drew).codes 3 rfl) HX.out).mono ?_; rintro e w10 ⟨x1, rfl, hg, hb, hc⟩)
    have HS8 : Hid (Hp w [.ob (w.heap.size) 27 (pgCells p), .ob (w.heap.size + 1) 29 (chCells a), .ob (w.heap.size + 1 + 1) 29 (chCells b), .cd C, .ob B1 27 (pgCells q), .ob B3 29 (chCells xx), .ob B2 29 (chCells yy)] w10) := ((HSc.out).drew).draws 3 rfl hb hc
    refine hK.out _ _ (HS8.out.pick [1, 2, 5, 6] rfl) (fun hHeld => ?_)
    clear hK K hb hc
    have HGx1 := Lib.hid hg
    clear hg
    try simp only [Act.put, List.setIfInBounds_toArray, List.set_cons_zero, List.set_cons_succ]
    refine wpAnyH_take (i := 10) (oi := { dst := some 68, op := Op.build 36 #[(0, Operand.tmp 66), (1, Operand.tmp 67)], type := 36, pos := "law.go:30", after := #[{ on := 8, ground := Ground.data }, { on := 9, ground := Ground.data }], guard := none }) rfl (by kernel_rfl) (by kernel_rfl) (by kernel_rfl) (fun _ _ _ h => h) (yieldsIf_build_v (by rfl) 36 (.agg (prCells (x1, yy)).toArray) rfl (fun W => by simp only [List.map_toArray, List.map_cons, List.map_nil]; exact (build_pr x1 yy) W)) hHeld ?_
    try simp only [Act.put, List.setIfInBounds_toArray, List.set_cons_zero, List.set_cons_succ]
    refine wpAnyH_ready (rs := [14]) (by kernel_rfl) (by simp) ?_
    refine AllReadyH.cons (o := { dst := some 72, op := Op.call { callee := Callee.value (Operand.func 12), args := #[Operand.tmp 70, Operand.tmp 71], argTypes := #[31, 29] }, type := 29, pos := "law.go:30", after := #[{ on := 12, ground := Ground.data }, { on := 13, ground := Ground.data }, { on := 8, ground := Ground.chain }], guard := none }) rfl (fun K hK => ?_) (AllReadyH.nil)
    go_simp
    go_wp2_with (go_at_call 12; refine (oddChange_any C yy _ ((HS8.out).codes 3 rfl) HYy.out).mono ?_; rintro e w11 ⟨y1, rfl, hg, hb, hc⟩)
    have HS9 : Hid (Hp w [.ob (w.heap.size) 27 (pgCells p), .ob (w.heap.size + 1) 29 (chCells a), .ob (w.heap.size + 1 + 1) 29 (chCells b), .cd C, .ob B1 27 (pgCells q), .ob B3 29 (chCells xx), .ob B2 29 (chCells yy)] w11) := (HS8.out).draws 3 rfl hb hc
    refine hK.out _ _ (HS9.out.pick [1, 2, 5, 6] rfl) (fun hHeld => ?_)
    clear hK K hb hc
    have HGy1 := Lib.hid hg
    clear hg
    try simp only [Act.put, List.setIfInBounds_toArray, List.set_cons_zero, List.set_cons_succ]
    refine wpAnyH_take (i := 15) (oi := { dst := some 73, op := Op.build 36 #[(0, Operand.tmp 69), (1, Operand.tmp 72)], type := 36, pos := "law.go:30", after := #[{ on := 11, ground := Ground.data }, { on := 14, ground := Ground.data }], guard := none }) rfl (by kernel_rfl) (by kernel_rfl) (by kernel_rfl) (fun _ _ _ h => h) (yieldsIf_build_v (by rfl) 36 (.agg (prCells (xx, y1)).toArray) rfl (fun W => by simp only [List.map_toArray, List.map_cons, List.map_nil]; exact (build_pr xx y1) W)) hHeld ?_
    try simp only [Act.put, List.setIfInBounds_toArray, List.set_cons_zero, List.set_cons_succ]
    refine wpAnyH_ready (rs := [16]) (by kernel_rfl) (by simp) ?_
    refine AllReadyH.cons (o := { dst := some 74, op := Op.buildSlice 38 4 #[(0, Operand.tmp 60), (1, Operand.tmp 63), (2, Operand.tmp 68), (3, Operand.tmp 73)], type := 38, pos := "law.go:30", after := #[{ on := 2, ground := Ground.data }, { on := 5, ground := Ground.data }, { on := 10, ground := Ground.data }, { on := 15, ground := Ground.data }], guard := none }) rfl (fun K hK => ?_) (AllReadyH.nil)
    rw [if_pos (by rfl)]
    refine wp_build_obs rfl elem_pr HUPRS.out [prCells (a, b), prCells (xx, yy), prCells (x1, yy), prCells (xx, y1)] (List.forall_mem_cons.2 ⟨rfl, (List.forall_mem_cons.2 ⟨rfl, (List.forall_mem_cons.2 ⟨rfl, (List.forall_mem_cons.2 ⟨rfl, (fun _ h => absurd h List.not_mem_nil)⟩)⟩)⟩)⟩) (Nat.succ_pos _) (by simp only [List.length_cons, List.length_nil]; omega) rfl (by simp only [List.map_toArray, List.map_cons, List.map_nil, List.zipIdx_cons, List.zipIdx_nil]; exact rfl) ?_
    have HS10 : Hid (Hp w [.ob (w.heap.size) 27 (pgCells p), .ob (w.heap.size + 1) 29 (chCells a), .ob (w.heap.size + 1 + 1) 29 (chCells b), .cd C, .ob B1 27 (pgCells q), .ob B3 29 (chCells xx), .ob B2 29 (chCells yy), .ob (w11.heap.size) 36 (([prCells (a, b), prCells (xx, yy), prCells (x1, yy), prCells (xx, y1)] : List (List Value)).flatMap id)] (w11.alloc (.cells (([prCells (a, b), prCells (xx, yy), prCells (x1, yy), prCells (xx, y1)] : List (List Value)).flatMap id).toArray 36))) := (HS9.out).put 36 (([prCells (a, b), prCells (xx, yy), prCells (x1, yy), prCells (xx, y1)] : List (List Value)).flatMap id)
    refine hK.out _ _ (HS10.out.pick [1, 2, 5, 6] rfl) (fun hHeld => ?_)
    clear hK K
    generalize (w11.alloc (.cells (([prCells (a, b), prCells (xx, yy), prCells (x1, yy), prCells (xx, y1)] : List (List Value)).flatMap id).toArray 36)) = w12 at *
    generalize w11.heap.size = B4 at *
    try simp only [Act.put, List.setIfInBounds_toArray, List.set_cons_zero, List.set_cons_succ]
    refine wpAnyH_take (i := 17) (oi := { dst := some 75, op := Op.call { callee := Callee.builtin Builtin.len, args := #[Operand.tmp 74], argTypes := #[38] }, type := 3, pos := "law.go:30", after := #[{ on := 16, ground := Ground.data }], guard := none }) (v := ?q16v) rfl (by kernel_rfl) (by kernel_rfl) (by kernel_rfl) (fun _ _ _ h => h) (Or.inl ⟨by rfl, ?q16h⟩) hHeld ?q16r
    case q16h => (intro wq hSw; clear hSw; go_simp; try with_reducible rfl)
    try simp only [Act.put, List.setIfInBounds_toArray, List.set_cons_zero, List.set_cons_succ]
    refine wpAnyH_done (by kernel_rfl) ?_ _
    have HZg : Hid (∀ u ∈ ([(a, b), (xx, yy), (x1, yy), (xx, y1)] : List (Chg × Chg)), GoodCh u.1 ∧ GoodCh u.2) := by
      intro u hu
      simp only [List.mem_cons, List.not_mem_nil, or_false] at hu
      rcases hu with rfl | rfl | rfl | rfl
      · exact ⟨HGa.out, HGb.out⟩
      · exact ⟨HX.out, HYy.out⟩
      · exact ⟨HGx1.out, HYy.out⟩
      · exact ⟨HX.out, HGy1.out⟩
    have HSd : Hid (Hp w [.ob (w.heap.size) 27 (pgCells p), .ob (w.heap.size + 1) 29 (chCells a), .ob (w.heap.size + 1 + 1) 29 (chCells b), .cd C, .ob B1 27 (pgCells q), .ob B3 29 (chCells xx), .ob B2 29 (chCells yy), .ob B4 36 ((([(a, b), (xx, yy), (x1, yy), (xx, y1)] : List (Chg × Chg)).map prCells).flatMap id)] w12) := HS10.out
    clear HS10
    have HLz : Hid (([(a, b), (xx, yy), (x1, yy), (xx, y1)] : List (Chg × Chg)).length = 4) := rfl
    generalize ([(a, b), (xx, yy), (x1, yy), (xx, y1)] : List (Chg × Chg)) = us at *
    have HS11 : Hid (Hp w [.ob (w.heap.size) 27 (pgCells p), .cd C, .ob B1 27 (pgCells q), .ob B4 36 ((us.map prCells).flatMap id)] w12) := HSd.out.pull [0, 3, 4, 7] rfl (pull_nd HSd.out.nd [0, 3, 4, 7] rfl (by decide))
    clear HSd
    clear hHeld
    go_wp2_with fail
    go_loopw [76] (fun i wr => ∃ j : Nat, j ≤ 4 ∧ i = .int .i64 j ∧ Hp w [.ob (w.heap.size) 27 (pgCells p), .cd C, .ob B1 27 (pgCells q), .ob B4 36 ((us.map prCells).flatMap id)] wr) (fun i _ => 4 - (intOf i).toNat)
    case atStart => exact ⟨0, by omega, rfl, HS11.out⟩
    case round =>
      obtain ⟨j, hj, rfl, hs⟩ := hrel
      clear HS11
      by_cases hlt : j < 4
      · have HS20 := Lib.hid hs
        clear hs
        have hjl : j < us.length := by rw [HLz.out]; exact hlt
        obtain ⟨u, hu⟩ : ∃ u, us[j] = u := ⟨_, rfl⟩
        have HU1 : Hid ((us.map prCells)[j]? = some (prCells u)) := by show _ = _; rw [List.getElem?_map, List.getElem?_eq_getElem hjl, hu]; rfl
        have HUl : Hid (∀ y ∈ us.map prCells, y.length = 12) := by
          intro y hy
          obtain ⟨v, _, rfl⟩ := List.mem_map.1 hy
          rfl
        have HUg : Hid (GoodCh u.1 ∧ GoodCh u.2) := HZg.out u (by rw [← hu]; exact List.getElem_mem hjl)
        have HJg : Hid (GoodCh (joinR u.1 u.2).1) := join_good HUg.out.1 HUg.out.2
        have hj4 : (j : Int) < 4 := by omega
        clear hu hjl
        have HJc : Hid (∀ W, Calls Try.prog 13 #[.agg (chCells u.1).toArray, .agg (chCells u.2).toArray] W fun e w' => e = .returned (.tuple #[.agg (chCells (joinR u.1 u.2).1).toArray, .int .i64 (joinR u.1 u.2).2]) ∧ Below W.heap.size W w') := fun W => join_any u.1 u.2 W HUg.out.1 HUg.out.2
        have HJr : Hid (∀ W, Calls Try.prog 14 #[.agg (chCells u.1).toArray, .agg (chCells u.2).toArray] W fun e w' => e = .returned (.tuple #[.agg (chCells (joinR u.1 u.2).1).toArray, .int .i64 (joinR u.1 u.2).2]) ∧ Below W.heap.size W w') := fun W => rjoin_any u.1 u.2 W HUg.out.1 HUg.out.2
        generalize (joinR u.1 u.2).1 = J at *
        generalize (joinR u.1 u.2).2 = jn at *
        have hjn : (jn != jn) = false := by simp
        have hJJ := neq_ch J HJg.out
        have hII := neq_ch (invR u.2) (inv_good HUg.out.2)
        have HVp : Hid (∀ W, Calls Try.prog 15 #[.agg (chCells u.1).toArray] W fun e w' => e = .returned (.bool (chOkB u.1)) ∧ Below W.heap.size W w') := fun W => valid_ch u.1 W HUg.out.1.before HUg.out.1.after
        have HVr : Hid (∀ W, Calls Try.prog 16 #[.agg (chCells u.1).toArray] W fun e w' => e = .returned (.bool (chOkB u.1)) ∧ Below W.heap.size W w') := fun W => rvalid_ch u.1 W HUg.out.1.before HUg.out.1.after
        have HCp : Hid (∀ W, Calls Try.prog 19 #[.agg (clCells u.1.after).toArray] W fun e w' => e = .returned (.bool (cellOkB u.1.after)) ∧ Below W.heap.size W w') := fun W => validCell_cl u.1.after W HUg.out.1.after
        have HCr : Hid (∀ W, Calls Try.prog 20 #[.agg (clCells u.1.after).toArray] W fun e w' => e = .returned (.bool (cellOkB u.1.after)) ∧ Below W.heap.size W w') := fun W => rvalidCell_cl u.1.after W HUg.out.1.after
        generalize chOkB u.1 = vb at *
        generalize cellOkB u.1.after = vc at *
        have hvb : (vb != vb) = false := by simp
        have hvc : (vc != vc) = false := by simp
        go_wp2_with (first | ((with_reducible refine wpList_load_at 36 (.tmp 78) B4 ((j * 12)) (prCells u) HUPR.out ?_ ?_ ?_ ?_ ?_); (exact rfl); (exact (HS20.out).mid 3 rfl (j * 12) (prCells u) (flat_mid (us.map prCells) HUl.out j _ HU1.out)); (exact rfl); (exact info_pr); simp only [Act.put, List.setIfInBounds_toArray, List.set_cons_zero, List.set_cons_succ]) | ((with_reducible refine wpList_alloc_ob 36 (prCells (chNil, chNil)) ?_ ?_); (exact alloc_pr); simp only [Act.put, List.setIfInBounds_toArray, List.set_cons_zero, List.set_cons_succ]) | ((with_reducible refine wpList_store_ob 36 (.tmp 14) (wr.heap.size) (prCells u) (prCells (chNil, chNil)) 36 ?_ ?_ ?_ ?_ ?_ ?_ ?_); (exact rfl); (exact rfl); (exact ((HS20.out).put 36 (prCells (chNil, chNil))).get 4 rfl); (exact info_pr); (exact rfl); (exact (oneCell_pr _)); skip) | ((with_reducible refine wpList_load_at 29 (.tmp 81) (wr.heap.size) (0) (chCells u.1) HU.out ?_ ?_ ?_ ?_ ?_); (exact rfl); (exact (((HS20.out).put 36 (prCells (chNil, chNil))).row 4 rfl (prCells u)).mid 4 rfl (0) _ (pr_first u)); (exact rfl); (exact info_ch); simp only [Act.put, List.setIfInBounds_toArray, List.set_cons_zero, List.set_cons_succ]) | ((with_reducible refine wpList_load_at 29 (.tmp 83) (wr.heap.size) (6) (chCells u.2) HU.out ?_ ?_ ?_ ?_ ?_); (exact rfl); (exact (((HS20.out).put 36 (prCells (chNil, chNil))).row 4 rfl (prCells u)).mid 4 rfl (6) _ (pr_second u)); (exact rfl); (exact info_ch); simp only [Act.put, List.setIfInBounds_toArray, List.set_cons_zero, List.set_cons_succ]))
        refine (HJc.out _).mono ?_
        rintro e w13 ⟨rfl, hb⟩
        have HS12 : Hid (Hp w [.ob (w.heap.size) 27 (pgCells p), .cd C, .ob B1 27 (pgCells q), .ob B4 36 ((us.map prCells).flatMap id), .ob (wr.heap.size) 36 (prCells u)] w13) := (((HS20.out).put 36 (prCells (chNil, chNil))).row 4 rfl (prCells u)).calls hb
        clear hb
        clear HS20
        generalize wr.heap.size = B5 at *
        go_wp2_with (first | ((with_reducible refine wpList_alloc_ob 29 (chCells chNil) ?_ ?_); (exact alloc_ch); simp only [Act.put, List.setIfInBounds_toArray, List.set_cons_zero, List.set_cons_succ]) | ((with_reducible refine wpList_store_ob 29 (.tmp 15) (w13.heap.size) (chCells J) (chCells chNil) 29 ?_ ?_ ?_ ?_ ?_ ?_ ?_); (exact rfl); (exact rfl); (exact ((HS12.out).put 29 (chCells chNil)).get 5 rfl); (exact info_ch); (exact rfl); (exact (oneCell_ch _)); skip) | ((with_reducible refine wpList_load_at 29 (.tmp 89) B5 (0) (chCells u.1) HU.out ?_ ?_ ?_ ?_ ?_); (exact rfl); (exact (((HS12.out).put 29 (chCells chNil)).row 5 rfl (chCells J)).mid 4 rfl (0) _ (pr_first u)); (exact rfl); (exact info_ch); simp only [Act.put, List.setIfInBounds_toArray, List.set_cons_zero, List.set_cons_succ]) | ((with_reducible refine wpList_load_at 29 (.tmp 91) B5 (6) (chCells u.2) HU.out ?_ ?_ ?_ ?_ ?_); (exact rfl); (exact (((HS12.out).put 29 (chCells chNil)).row 5 rfl (chCells J)).mid 4 rfl (6) _ (pr_second u)); (exact rfl); (exact info_ch); simp only [Act.put, List.setIfInBounds_toArray, List.set_cons_zero, List.set_cons_succ]))
        refine (HJr.out _).mono ?_
        rintro e w14 ⟨rfl, hb⟩
        have HS13 : Hid (Hp w [.ob (w.heap.size) 27 (pgCells p), .cd C, .ob B1 27 (pgCells q), .ob B4 36 ((us.map prCells).flatMap id), .ob B5 36 (prCells u), .ob (w13.heap.size) 29 (chCells J)] w14) := (((HS12.out).put 29 (chCells chNil)).row 5 rfl (chCells J)).calls hb
        clear hb
        clear HS12
        generalize w13.heap.size = B6 at *
        go_upto_region 14 with (first | ((with_reducible refine wpList_alloc_ob 29 (chCells chNil) ?_ ?_); (exact alloc_ch); simp only [Act.put, List.setIfInBounds_toArray, List.set_cons_zero, List.set_cons_succ]) | ((with_reducible refine wpList_store_ob 29 (.tmp 17) (w14.heap.size) (chCells J) (chCells chNil) 29 ?_ ?_ ?_ ?_ ?_ ?_ ?_); (exact rfl); (exact rfl); (exact ((HS13.out).put 29 (chCells chNil)).get 6 rfl); (exact info_ch); (exact rfl); (exact (oneCell_ch _)); skip))
        have HS14 : Hid (Hp w [.ob (w.heap.size) 27 (pgCells p), .cd C, .ob B1 27 (pgCells q), .ob B4 36 ((us.map prCells).flatMap id), .ob B5 36 (prCells u), .ob B6 29 (chCells J), .ob (w14.heap.size) 29 (chCells J)] ((w14.alloc (.cells (chCells chNil).toArray 29)).setRow (w14.heap.size) (chCells J).toArray)) := ((HS13.out).put 29 (chCells chNil)).row 6 rfl (chCells J)
        clear HS13
        generalize ((w14.alloc (.cells (chCells chNil).toArray 29)).setRow (w14.heap.size) (chCells J).toArray) = w15 at *
        generalize w14.heap.size = B7 at *
        refine wp_region_held_drew (S := fun w' => Hold w.heap.size [.ob B5 36 (prCells u), .ob B6 29 (chCells J), .ob B7 29 (chCells J)] w') (by kernel_rfl) ((HS14.out).drew.pick [4, 5, 6] rfl) (fun hHeld => ?_)
        refine wpAnyH_take (i := 0) (oi := { dst := some 96, op := Op.load 29 (Operand.tmp 15), type := 29, pos := "law.go:33", after := #[], guard := none }) rfl (by kernel_rfl) (by kernel_rfl) (by kernel_rfl) (fun _ _ _ h => h) (yieldsIf_load_mid (by rfl) 29 (.tmp 15) rfl B6 0 rfl (chCells J) _ (fun _ h => h.whole 1 rfl) HU.out rfl (info_ch)) hHeld ?_
        try simp only [Act.put, List.setIfInBounds_toArray, List.set_cons_zero, List.set_cons_succ]
        refine wpAnyH_take (i := 1) (oi := { dst := some 97, op := Op.load 29 (Operand.tmp 17), type := 29, pos := "law.go:33", after := #[], guard := none }) rfl (by kernel_rfl) (by kernel_rfl) (by kernel_rfl) (fun _ _ _ h => h) (yieldsIf_load_mid (by rfl) 29 (.tmp 17) rfl B7 0 rfl (chCells J) _ (fun _ h => h.whole 2 rfl) HU.out rfl (info_ch)) hHeld ?_
        try simp only [Act.put, List.setIfInBounds_toArray, List.set_cons_zero, List.set_cons_succ]
        refine wpAnyH_take (i := 2) (oi := { dst := some 98, op := Op.binOp BinOp.neq 29 (Operand.tmp 96) (Operand.tmp 97) 29, type := 4, pos := "law.go:33", after := #[{ on := 0, ground := Ground.data }, { on := 1, ground := Ground.data }], guard := none }) (v := ?q19v) rfl (by kernel_rfl) (by kernel_rfl) (by kernel_rfl) (fun _ _ _ h => h) (Or.inl ⟨by rfl, ?q19h⟩) hHeld ?q19r
        case q19h => (intro wq hSw; clear hSw; go_simp; try with_reducible rfl)
        try simp only [Act.put, List.setIfInBounds_toArray, List.set_cons_zero, List.set_cons_succ]
        refine wpAnyH_take (i := 3) (oi := { dst := some 99, op := Op.move (Operand.tmp 98), type := 4, pos := "law.go:33", after := #[{ on := 2, ground := Ground.data }], guard := none }) (v := ?q20v) rfl (by kernel_rfl) (by kernel_rfl) (by kernel_rfl) (fun _ _ _ h => h) (Or.inl ⟨by rfl, ?q20h⟩) hHeld ?q20r
        case q20h => (intro wq hSw; clear hSw; go_simp; try with_reducible rfl)
        try simp only [Act.put, List.setIfInBounds_toArray, List.set_cons_zero, List.set_cons_succ]
        refine wpAnyH_take (i := 4) (oi := { dst := some 100, op := Op.move (Operand.tmp 16), type := 39, pos := "law.go:33", after := #[{ on := 3, ground := Ground.guard }], guard := some (3, false) }) (v := ?q21v) rfl (by kernel_rfl) (by kernel_rfl) (by kernel_rfl) (fun _ _ _ h => h) (Or.inl ⟨by rfl, ?q21h⟩) hHeld ?q21r
        case q21h => (intro wq hSw; clear hSw; go_simp; try with_reducible rfl)
        try simp only [Act.put, List.setIfInBounds_toArray, List.set_cons_zero, List.set_cons_succ]
        refine wpAnyH_take (i := 5) (oi := { dst := some 101, op := Op.move (Operand.tmp 18), type := 39, pos := "law.go:33", after := #[{ on := 3, ground := Ground.guard }], guard := some (3, false) }) (v := ?q22v) rfl (by kernel_rfl) (by kernel_rfl) (by kernel_rfl) (fun _ _ _ h => h) (Or.inl ⟨by rfl, ?q22h⟩) hHeld ?q22r
        case q22h => (intro wq hSw; clear hSw; go_simp; try with_reducible rfl)
        try simp only [Act.put, List.setIfInBounds_toArray, List.set_cons_zero, List.set_cons_succ]
        refine wpAnyH_take (i := 6) (oi := { dst := some 102, op := Op.binOp BinOp.neq 39 (Operand.tmp 100) (Operand.tmp 101) 39, type := 4, pos := "law.go:33", after := #[{ on := 4, ground := Ground.data }, { on := 5, ground := Ground.data }, { on := 3, ground := Ground.guard }], guard := some (3, false) }) (v := ?q23v) rfl (by kernel_rfl) (by kernel_rfl) (by kernel_rfl) (fun _ _ _ h => h) (Or.inl ⟨by rfl, ?q23h⟩) hHeld ?q23r
        case q23h => (intro wq hSw; clear hSw; go_simp; try with_reducible rfl)
        try simp only [Act.put, List.setIfInBounds_toArray, List.set_cons_zero, List.set_cons_succ]
        refine wpAnyH_take (i := 7) (oi := { dst := some 103, op := Op.pick (Operand.tmp 99) (Operand.const (Value.bool true)) (Operand.tmp 102), type := 4, pos := "law.go:33", after := #[{ on := 3, ground := Ground.data }, { on := 6, ground := Ground.data }], guard := none }) (v := ?q24v) rfl (by kernel_rfl) (by kernel_rfl) (by kernel_rfl) (fun _ _ _ h => h) (Or.inl ⟨by rfl, ?q24h⟩) hHeld ?q24r
        case q24h => (intro wq hSw; clear hSw; go_simp; try with_reducible rfl)
        try simp only [Act.put, List.setIfInBounds_toArray, List.set_cons_zero, List.set_cons_succ]
        refine wpAnyH_take (i := 8) (oi := { dst := some 104, op := Op.move (Operand.tmp 103), type := 4, pos := "law.go:33", after := #[{ on := 7, ground := Ground.data }, { on := 3, ground := Ground.chain }], guard := none }) (v := ?q25v) rfl (by kernel_rfl) (by kernel_rfl) (by kernel_rfl) (fun _ _ _ h => h) (Or.inl ⟨by rfl, ?q25h⟩) hHeld ?q25r
        case q25h => (intro wq hSw; clear hSw; go_simp; try with_reducible rfl)
        try simp only [Act.put, List.setIfInBounds_toArray, List.set_cons_zero, List.set_cons_succ]
        refine wpAnyH_take (i := 9) (oi := { dst := some 105, op := Op.indexAddr 36 (Operand.tmp 14) (Operand.const (Value.int IntKind.i64 0)), type := 0, pos := "law.go:33", after := #[{ on := 8, ground := Ground.guard }], guard := some (8, false) }) (v := ?q26v) rfl (by kernel_rfl) (by kernel_rfl) (by kernel_rfl) (fun _ _ _ h => h) (Or.inl ⟨by rfl, ?q26h⟩) hHeld ?q26r
        case q26h => (intro wq hSw; clear hSw; go_simp; try with_reducible rfl)
        try simp only [Act.put, List.setIfInBounds_toArray, List.set_cons_zero, List.set_cons_succ]
        refine wpAnyH_take (i := 10) (oi := { dst := some 106, op := Op.load 29 (Operand.tmp 105), type := 29, pos := "law.go:33", after := #[{ on := 9, ground := Ground.data }, { on := 8, ground := Ground.guard }], guard := some (8, false) }) rfl (by kernel_rfl) (by kernel_rfl) (by kernel_rfl) (fun _ _ _ h => h) (yieldsIf_load_mid (by rfl) 29 (.tmp 105) rfl B5 (0) rfl (chCells u.1) _ (fun _ h => h.mid 0 rfl (0) _ (pr_first u)) HU.out rfl (info_ch)) hHeld ?_
        try simp only [Act.put, List.setIfInBounds_toArray, List.set_cons_zero, List.set_cons_succ]
        refine wpAnyH_take (i := 12) (oi := { dst := some 108, op := Op.indexAddr 36 (Operand.tmp 14) (Operand.const (Value.int IntKind.i64 0)), type := 0, pos := "law.go:33", after := #[{ on := 8, ground := Ground.guard }], guard := some (8, false) }) (v := ?q28v) rfl (by kernel_rfl) (by kernel_rfl) (by kernel_rfl) (fun _ _ _ h => h) (Or.inl ⟨by rfl, ?q28h⟩) hHeld ?q28r
        case q28h => (intro wq hSw; clear hSw; go_simp; try with_reducible rfl)
        try simp only [Act.put, List.setIfInBounds_toArray, List.set_cons_zero, List.set_cons_succ]
        refine wpAnyH_take (i := 13) (oi := { dst := some 109, op := Op.load 29 (Operand.tmp 108), type := 29, pos := "law.go:33", after := #[{ on := 12, ground := Ground.data }, { on := 8, ground := Ground.guard }], guard := some (8, false) }) rfl (by kernel_rfl) (by kernel_rfl) (by kernel_rfl) (fun _ _ _ h => h) (yieldsIf_load_mid (by rfl) 29 (.tmp 108) rfl B5 (0) rfl (chCells u.1) _ (fun _ h => h.mid 0 rfl (0) _ (pr_first u)) HU.out rfl (info_ch)) hHeld ?_
        try simp only [Act.put, List.setIfInBounds_toArray, List.set_cons_zero, List.set_cons_succ]
        refine wpAnyH_ready (rs := [11]) (by kernel_rfl) (by simp) ?_
        refine AllReadyH.cons (o := { dst := some 107, op := Op.call { callee := Callee.value (Operand.func 15), args := #[Operand.tmp 106], argTypes := #[29] }, type := 4, pos := "law.go:33", after := #[{ on := 10, ground := Ground.data }, { on := 8, ground := Ground.chain }, { on := 8, ground := Ground.guard }], guard := some (8, false) }) rfl (fun K hK => ?_) (AllReadyH.nil)
        go_simp
        go_wp2_with (go_at_call 15; refine (HVp.out _).mono ?_; rintro e w16 ⟨rfl, hb⟩)
        have HS15 : Hid (Hp w [.ob (w.heap.size) 27 (pgCells p), .cd C, .ob B1 27 (pgCells q), .ob B4 36 ((us.map prCells).flatMap id), .ob B5 36 (prCells u), .ob B6 29 (chCells J), .ob B7 29 (chCells J)] w16) := ((HS14.out).drew).calls hb
        refine hK.out _ _ (HS15.out.pick [4, 5, 6] rfl) (fun hHeld => ?_)
        clear hK K hb
        try simp only [Act.put, List.setIfInBounds_toArray, List.set_cons_zero, List.set_cons_succ]
        refine wpAnyH_ready (rs := [14]) (by kernel_rfl) (by simp) ?_
        refine AllReadyH.cons (o := { dst := some 110, op := Op.call { callee := Callee.value (Operand.func 16), args := #[Operand.tmp 109], argTypes := #[29] }, type := 4, pos := "law.go:33", after := #[{ on := 13, ground := Ground.data }, { on := 11, ground := Ground.chain }, { on := 8, ground := Ground.guard }], guard := some (8, false) }) rfl (fun K hK => ?_) (AllReadyH.nil)
        go_simp
        go_wp2_with (go_at_call 16; refine (HVr.out _).mono ?_; rintro e w17 ⟨rfl, hb⟩)
        have HS16 : Hid (Hp w [.ob (w.heap.size) 27 (pgCells p), .cd C, .ob B1 27 (pgCells q), .ob B4 36 ((us.map prCells).flatMap id), .ob B5 36 (prCells u), .ob B6 29 (chCells J), .ob B7 29 (chCells J)] w17) := (HS15.out).calls hb
        refine hK.out _ _ (HS16.out.pick [4, 5, 6] rfl) (fun hHeld => ?_)
        clear hK K hb
        try simp only [Act.put, List.setIfInBounds_toArray, List.set_cons_zero, List.set_cons_succ]
        refine wpAnyH_take (i := 15) (oi := { dst := some 111, op := Op.binOp BinOp.neq 4 (Operand.tmp 107) (Operand.tmp 110) 4, type := 4, pos := "law.go:33", after := #[{ on := 11, ground := Ground.data }, { on := 14, ground := Ground.data }, { on := 8, ground := Ground.guard }], guard := some (8, false) }) (v := ?q30v) rfl (by kernel_rfl) (by kernel_rfl) (by kernel_rfl) (fun _ _ _ h => h) (Or.inl ⟨by rfl, ?q30h⟩) hHeld ?q30r
        case q30h => (intro wq hSw; clear hSw; go_simp; try with_reducible rfl)
        try simp only [Act.put, List.setIfInBounds_toArray, List.set_cons_zero, List.set_cons_succ]
        refine wpAnyH_take (i := 16) (oi := { dst := some 112, op := Op.pick (Operand.tmp 104) (Operand.const (Value.bool true)) (Operand.tmp 111), type := 4, pos := "law.go:33", after := #[{ on := 8, ground := Ground.data }, { on := 15, ground := Ground.data }], guard := none }) (v := ?q31v) rfl (by kernel_rfl) (by kernel_rfl) (by kernel_rfl) (fun _ _ _ h => h) (Or.inl ⟨by rfl, ?q31h⟩) hHeld ?q31r
        case q31h => (intro wq hSw; clear hSw; go_simp; try with_reducible rfl)
        try simp only [Act.put, List.setIfInBounds_toArray, List.set_cons_zero, List.set_cons_succ]
        refine wpAnyH_take (i := 17) (oi := { dst := some 113, op := Op.move (Operand.tmp 112), type := 4, pos := "law.go:33", after := #[{ on := 16, ground := Ground.data }, { on := 14, ground := Ground.chain }], guard := none }) (v := ?q32v) rfl (by kernel_rfl) (by kernel_rfl) (by kernel_rfl) (fun _ _ _ h => h) (Or.inl ⟨by rfl, ?q32h⟩) hHeld ?q32r
        case q32h => (intro wq hSw; clear hSw; go_simp; try with_reducible rfl)
        try simp only [Act.put, List.setIfInBounds_toArray, List.set_cons_zero, List.set_cons_succ]
        refine wpAnyH_take (i := 18) (oi := { dst := some 114, op := Op.indexAddr 36 (Operand.tmp 14) (Operand.const (Value.int IntKind.i64 1)), type := 0, pos := "law.go:33", after := #[{ on := 17, ground := Ground.guard }], guard := some (17, false) }) (v := ?q33v) rfl (by kernel_rfl) (by kernel_rfl) (by kernel_rfl) (fun _ _ _ h => h) (Or.inl ⟨by rfl, ?q33h⟩) hHeld ?q33r
        case q33h => (intro wq hSw; clear hSw; go_simp; try with_reducible rfl)
        try simp only [Act.put, List.setIfInBounds_toArray, List.set_cons_zero, List.set_cons_succ]
        refine wpAnyH_take (i := 19) (oi := { dst := some 115, op := Op.load 29 (Operand.tmp 114), type := 29, pos := "law.go:33", after := #[{ on := 18, ground := Ground.data }, { on := 17, ground := Ground.guard }], guard := some (17, false) }) rfl (by kernel_rfl) (by kernel_rfl) (by kernel_rfl) (fun _ _ _ h => h) (yieldsIf_load_mid (by rfl) 29 (.tmp 114) rfl B5 (6) rfl (chCells u.2) _ (fun _ h => h.mid 0 rfl (6) _ (pr_second u)) HU.out rfl (info_ch)) hHeld ?_
        try simp only [Act.put, List.setIfInBounds_toArray, List.set_cons_zero, List.set_cons_succ]
        refine wpAnyH_take (i := 21) (oi := { dst := some 117, op := Op.indexAddr 36 (Operand.tmp 14) (Operand.const (Value.int IntKind.i64 1)), type := 0, pos := "law.go:33", after := #[{ on := 17, ground := Ground.guard }], guard := some (17, false) }) (v := ?q35v) rfl (by kernel_rfl) (by kernel_rfl) (by kernel_rfl) (fun _ _ _ h => h) (Or.inl ⟨by rfl, ?q35h⟩) hHeld ?q35r
        case q35h => (intro wq hSw; clear hSw; go_simp; try with_reducible rfl)
        try simp only [Act.put, List.setIfInBounds_toArray, List.set_cons_zero, List.set_cons_succ]
        refine wpAnyH_take (i := 22) (oi := { dst := some 118, op := Op.load 29 (Operand.tmp 117), type := 29, pos := "law.go:33", after := #[{ on := 21, ground := Ground.data }, { on := 17, ground := Ground.guard }], guard := some (17, false) }) rfl (by kernel_rfl) (by kernel_rfl) (by kernel_rfl) (fun _ _ _ h => h) (yieldsIf_load_mid (by rfl) 29 (.tmp 117) rfl B5 (6) rfl (chCells u.2) _ (fun _ h => h.mid 0 rfl (6) _ (pr_second u)) HU.out rfl (info_ch)) hHeld ?_
        try simp only [Act.put, List.setIfInBounds_toArray, List.set_cons_zero, List.set_cons_succ]
        refine wpAnyH_ready (rs := [20]) (by kernel_rfl) (by simp) ?_
        refine AllReadyH.cons (o := { dst := some 116, op := Op.call { callee := Callee.value (Operand.func 17), args := #[Operand.tmp 115], argTypes := #[29] }, type := 29, pos := "law.go:33", after := #[{ on := 19, ground := Ground.data }, { on := 17, ground := Ground.chain }, { on := 17, ground := Ground.guard }], guard := some (17, false) }) rfl (fun K hK => ?_) (AllReadyH.nil)
        go_simp
        go_wp2_with (go_at_call 17; refine (inverse_any u.2 _).mono ?_; rintro e w18 ⟨rfl, hb⟩)
        have HS17 : Hid (Hp w [.ob (w.heap.size) 27 (pgCells p), .cd C, .ob B1 27 (pgCells q), .ob B4 36 ((us.map prCells).flatMap id), .ob B5 36 (prCells u), .ob B6 29 (chCells J), .ob B7 29 (chCells J)] w18) := (HS16.out).calls hb
        refine hK.out _ _ (HS17.out.pick [4, 5, 6] rfl) (fun hHeld => ?_)
        clear hK K hb
        try simp only [Act.put, List.setIfInBounds_toArray, List.set_cons_zero, List.set_cons_succ]
        refine wpAnyH_ready (rs := [23]) (by kernel_rfl) (by simp) ?_
        refine AllReadyH.cons (o := { dst := some 119, op := Op.call { callee := Callee.value (Operand.func 18), args := #[Operand.tmp 118], argTypes := #[29] }, type := 29, pos := "law.go:33", after := #[{ on := 22, ground := Ground.data }, { on := 20, ground := Ground.chain }, { on := 17, ground := Ground.guard }], guard := some (17, false) }) rfl (fun K hK => ?_) (AllReadyH.nil)
        go_simp
        go_wp2_with (go_at_call 18; refine (rinverse_any u.2 _).mono ?_; rintro e w19 ⟨rfl, hb⟩)
        have HS18 : Hid (Hp w [.ob (w.heap.size) 27 (pgCells p), .cd C, .ob B1 27 (pgCells q), .ob B4 36 ((us.map prCells).flatMap id), .ob B5 36 (prCells u), .ob B6 29 (chCells J), .ob B7 29 (chCells J)] w19) := (HS17.out).calls hb
        refine hK.out _ _ (HS18.out.pick [4, 5, 6] rfl) (fun hHeld => ?_)
        clear hK K hb
        try simp only [Act.put, List.setIfInBounds_toArray, List.set_cons_zero, List.set_cons_succ]
        refine wpAnyH_take (i := 24) (oi := { dst := some 120, op := Op.binOp BinOp.neq 29 (Operand.tmp 116) (Operand.tmp 119) 29, type := 4, pos := "law.go:33", after := #[{ on := 20, ground := Ground.data }, { on := 23, ground := Ground.data }, { on := 17, ground := Ground.guard }], guard := some (17, false) }) (v := ?q37v) rfl (by kernel_rfl) (by kernel_rfl) (by kernel_rfl) (fun _ _ _ h => h) (Or.inl ⟨by rfl, ?q37h⟩) hHeld ?q37r
        case q37h => (intro wq hSw; clear hSw; go_simp; try with_reducible rfl)
        try simp only [Act.put, List.setIfInBounds_toArray, List.set_cons_zero, List.set_cons_succ]
        refine wpAnyH_take (i := 25) (oi := { dst := some 121, op := Op.pick (Operand.tmp 113) (Operand.const (Value.bool true)) (Operand.tmp 120), type := 4, pos := "law.go:33", after := #[{ on := 17, ground := Ground.data }, { on := 24, ground := Ground.data }], guard := none }) (v := ?q38v) rfl (by kernel_rfl) (by kernel_rfl) (by kernel_rfl) (fun _ _ _ h => h) (Or.inl ⟨by rfl, ?q38h⟩) hHeld ?q38r
        case q38h => (intro wq hSw; clear hSw; go_simp; try with_reducible rfl)
        try simp only [Act.put, List.setIfInBounds_toArray, List.set_cons_zero, List.set_cons_succ]
        refine wpAnyH_take (i := 26) (oi := { dst := some 122, op := Op.move (Operand.tmp 121), type := 4, pos := "law.go:33", after := #[{ on := 25, ground := Ground.data }, { on := 23, ground := Ground.chain }], guard := none }) (v := ?q39v) rfl (by kernel_rfl) (by kernel_rfl) (by kernel_rfl) (fun _ _ _ h => h) (Or.inl ⟨by rfl, ?q39h⟩) hHeld ?q39r
        case q39h => (intro wq hSw; clear hSw; go_simp; try with_reducible rfl)
        try simp only [Act.put, List.setIfInBounds_toArray, List.set_cons_zero, List.set_cons_succ]
        refine wpAnyH_take (i := 27) (oi := { dst := some 123, op := Op.indexAddr 36 (Operand.tmp 14) (Operand.const (Value.int IntKind.i64 0)), type := 0, pos := "law.go:33", after := #[{ on := 26, ground := Ground.guard }], guard := some (26, false) }) (v := ?q40v) rfl (by kernel_rfl) (by kernel_rfl) (by kernel_rfl) (fun _ _ _ h => h) (Or.inl ⟨by rfl, ?q40h⟩) hHeld ?q40r
        case q40h => (intro wq hSw; clear hSw; go_simp; try with_reducible rfl)
        try simp only [Act.put, List.setIfInBounds_toArray, List.set_cons_zero, List.set_cons_succ]
        refine wpAnyH_take (i := 28) (oi := { dst := some 124, op := Op.fieldAddr 29 (Operand.tmp 123) 3, type := 0, pos := "law.go:33", after := #[{ on := 27, ground := Ground.data }, { on := 26, ground := Ground.guard }], guard := some (26, false) }) (v := ?q41v) rfl (by kernel_rfl) (by kernel_rfl) (by kernel_rfl) (fun _ _ _ h => h) (Or.inl ⟨by rfl, ?q41h⟩) hHeld ?q41r
        case q41h => (intro wq hSw; clear hSw; go_simp; try with_reducible rfl)
        try simp only [Act.put, List.setIfInBounds_toArray, List.set_cons_zero, List.set_cons_succ]
        refine wpAnyH_take (i := 29) (oi := { dst := some 125, op := Op.load 24 (Operand.tmp 124), type := 24, pos := "law.go:33", after := #[{ on := 28, ground := Ground.data }, { on := 26, ground := Ground.guard }], guard := some (26, false) }) rfl (by kernel_rfl) (by kernel_rfl) (by kernel_rfl) (fun _ _ _ h => h) (yieldsIf_load_mid (by rfl) 24 (.tmp 124) rfl B5 (4) rfl (clCells u.1.after) _ (fun _ h => h.mid 0 rfl (4) _ (pr_after u)) HUC.out rfl (info_cl)) hHeld ?_
        try simp only [Act.put, List.setIfInBounds_toArray, List.set_cons_zero, List.set_cons_succ]
        refine wpAnyH_take (i := 31) (oi := { dst := some 127, op := Op.indexAddr 36 (Operand.tmp 14) (Operand.const (Value.int IntKind.i64 0)), type := 0, pos := "law.go:33", after := #[{ on := 26, ground := Ground.guard }], guard := some (26, false) }) (v := ?q43v) rfl (by kernel_rfl) (by kernel_rfl) (by kernel_rfl) (fun _ _ _ h => h) (Or.inl ⟨by rfl, ?q43h⟩) hHeld ?q43r
        case q43h => (intro wq hSw; clear hSw; go_simp; try with_reducible rfl)
        try simp only [Act.put, List.setIfInBounds_toArray, List.set_cons_zero, List.set_cons_succ]
        refine wpAnyH_take (i := 32) (oi := { dst := some 128, op := Op.fieldAddr 29 (Operand.tmp 127) 3, type := 0, pos := "law.go:33", after := #[{ on := 31, ground := Ground.data }, { on := 26, ground := Ground.guard }], guard := some (26, false) }) (v := ?q44v) rfl (by kernel_rfl) (by kernel_rfl) (by kernel_rfl) (fun _ _ _ h => h) (Or.inl ⟨by rfl, ?q44h⟩) hHeld ?q44r
        case q44h => (intro wq hSw; clear hSw; go_simp; try with_reducible rfl)
        try simp only [Act.put, List.setIfInBounds_toArray, List.set_cons_zero, List.set_cons_succ]
        refine wpAnyH_take (i := 33) (oi := { dst := some 129, op := Op.load 24 (Operand.tmp 128), type := 24, pos := "law.go:33", after := #[{ on := 32, ground := Ground.data }, { on := 26, ground := Ground.guard }], guard := some (26, false) }) rfl (by kernel_rfl) (by kernel_rfl) (by kernel_rfl) (fun _ _ _ h => h) (yieldsIf_load_mid (by rfl) 24 (.tmp 128) rfl B5 (4) rfl (clCells u.1.after) _ (fun _ h => h.mid 0 rfl (4) _ (pr_after u)) HUC.out rfl (info_cl)) hHeld ?_
        try simp only [Act.put, List.setIfInBounds_toArray, List.set_cons_zero, List.set_cons_succ]
        refine wpAnyH_ready (rs := [30]) (by kernel_rfl) (by simp) ?_
        refine AllReadyH.cons (o := { dst := some 126, op := Op.call { callee := Callee.value (Operand.func 19), args := #[Operand.tmp 125], argTypes := #[24] }, type := 4, pos := "law.go:33", after := #[{ on := 29, ground := Ground.data }, { on := 26, ground := Ground.chain }, { on := 26, ground := Ground.guard }], guard := some (26, false) }) rfl (fun K hK => ?_) (AllReadyH.nil)
        go_simp
        go_wp2_with (go_at_call 19; refine (HCp.out _).mono ?_; rintro e w20 ⟨rfl, hb⟩)
        have HS19 : Hid (Hp w [.ob (w.heap.size) 27 (pgCells p), .cd C, .ob B1 27 (pgCells q), .ob B4 36 ((us.map prCells).flatMap id), .ob B5 36 (prCells u), .ob B6 29 (chCells J), .ob B7 29 (chCells J)] w20) := (HS18.out).calls hb
        refine hK.out _ _ (HS19.out.pick [4, 5, 6] rfl) (fun hHeld => ?_)
        clear hK K hb
        try simp only [Act.put, List.setIfInBounds_toArray, List.set_cons_zero, List.set_cons_succ]
        refine wpAnyH_ready (rs := [34]) (by kernel_rfl) (by simp) ?_
        refine AllReadyH.cons (o := { dst := some 130, op := Op.call { callee := Callee.value (Operand.func 20), args := #[Operand.tmp 129], argTypes := #[24] }, type := 4, pos := "law.go:33", after := #[{ on := 33, ground := Ground.data }, { on := 30, ground := Ground.chain }, { on := 26, ground := Ground.guard }], guard := some (26, false) }) rfl (fun K hK => ?_) (AllReadyH.nil)
        go_simp
        go_wp2_with (go_at_call 20; refine (HCr.out _).mono ?_; rintro e w21 ⟨rfl, hb⟩)
        have HS20 : Hid (Hp w [.ob (w.heap.size) 27 (pgCells p), .cd C, .ob B1 27 (pgCells q), .ob B4 36 ((us.map prCells).flatMap id), .ob B5 36 (prCells u), .ob B6 29 (chCells J), .ob B7 29 (chCells J)] w21) := (HS19.out).calls hb
        refine hK.out _ _ (HS20.out.pick [4, 5, 6] rfl) (fun hHeld => ?_)
        clear hK K hb
        try simp only [Act.put, List.setIfInBounds_toArray, List.set_cons_zero, List.set_cons_succ]
        refine wpAnyH_take (i := 35) (oi := { dst := some 131, op := Op.binOp BinOp.neq 4 (Operand.tmp 126) (Operand.tmp 130) 4, type := 4, pos := "law.go:33", after := #[{ on := 30, ground := Ground.data }, { on := 34, ground := Ground.data }, { on := 26, ground := Ground.guard }], guard := some (26, false) }) (v := ?q46v) rfl (by kernel_rfl) (by kernel_rfl) (by kernel_rfl) (fun _ _ _ h => h) (Or.inl ⟨by rfl, ?q46h⟩) hHeld ?q46r
        case q46h => (intro wq hSw; clear hSw; go_simp; try with_reducible rfl)
        try simp only [Act.put, List.setIfInBounds_toArray, List.set_cons_zero, List.set_cons_succ]
        refine wpAnyH_take (i := 36) (oi := { dst := some 132, op := Op.pick (Operand.tmp 122) (Operand.const (Value.bool true)) (Operand.tmp 131), type := 4, pos := "law.go:33", after := #[{ on := 26, ground := Ground.data }, { on := 35, ground := Ground.data }], guard := none }) (v := ?q47v) rfl (by kernel_rfl) (by kernel_rfl) (by kernel_rfl) (fun _ _ _ h => h) (Or.inl ⟨by rfl, ?q47h⟩) hHeld ?q47r
        case q47h => (intro wq hSw; clear hSw; go_simp; try with_reducible rfl)
        try simp only [Act.put, List.setIfInBounds_toArray, List.set_cons_zero, List.set_cons_succ]
        refine wpAnyH_done (by kernel_rfl) ?_ _
        have HS21 : Hid (Hp w [.ob (w.heap.size) 27 (pgCells p), .cd C, .ob B1 27 (pgCells q), .ob B4 36 ((us.map prCells).flatMap id), .ob B5 36 (prCells u)] w21) := HS20.out.pull [0, 1, 2, 3, 4] rfl (pull_nd HS20.out.nd [0, 1, 2, 3, 4] rfl (by decide))
        clear HS20
        clear hHeld
        go_upto_region 16 with (fail)
        refine wp_region_held_drew (S := fun w' => Hold w.heap.size [.ob (w.heap.size) 27 (pgCells p), .ob B1 27 (pgCells q)] w') (by kernel_rfl) ((HS21.out).drew.pick [0, 2] rfl) (fun hHeld => ?_)
        refine wpAnyH_take (i := 0) (oi := { dst := some 133, op := Op.load 27 (Operand.tmp 5), type := 27, pos := "law.go:36", after := #[], guard := none }) rfl (by kernel_rfl) (by kernel_rfl) (by kernel_rfl) (fun _ _ _ h => h) (yieldsIf_load_mid (by rfl) 27 (.tmp 5) rfl (w.heap.size) 0 rfl (pgCells p) _ (fun _ h => h.whole 0 rfl) HUP.out rfl ((info_pgc HPl.out))) hHeld ?_
        try simp only [Act.put, List.setIfInBounds_toArray, List.set_cons_zero, List.set_cons_succ]
        refine wpAnyH_take (i := 1) (oi := { dst := some 134, op := Op.load 27 (Operand.tmp 10), type := 27, pos := "law.go:36", after := #[], guard := none }) rfl (by kernel_rfl) (by kernel_rfl) (by kernel_rfl) (fun _ _ _ h => h) (yieldsIf_load_mid (by rfl) 27 (.tmp 10) rfl B1 0 rfl (pgCells q) _ (fun _ h => h.whole 1 rfl) HUP.out rfl ((info_pgc HQl.out))) hHeld ?_
        try simp only [Act.put, List.setIfInBounds_toArray, List.set_cons_zero, List.set_cons_succ]
        refine wpAnyH_take (i := 2) (oi := { dst := some 135, op := Op.move (Operand.tmp 9), type := 31, pos := "law.go:36", after := #[], guard := none }) (v := ?q50v) rfl (by kernel_rfl) (by kernel_rfl) (by kernel_rfl) (fun _ _ _ h => h) (Or.inl ⟨by rfl, ?q50h⟩) hHeld ?q50r
        case q50h => (intro wq hSw; clear hSw; go_simp; try with_reducible rfl)
        try simp only [Act.put, List.setIfInBounds_toArray, List.set_cons_zero, List.set_cons_succ]
        refine wpAnyH_take (i := 3) (oi := { dst := some 136, op := Op.load 27 (Operand.tmp 10), type := 27, pos := "law.go:36", after := #[], guard := none }) rfl (by kernel_rfl) (by kernel_rfl) (by kernel_rfl) (fun _ _ _ h => h) (yieldsIf_load_mid (by rfl) 27 (.tmp 10) rfl B1 0 rfl (pgCells q) _ (fun _ h => h.whole 1 rfl) HUP.out rfl ((info_pgc HQl.out))) hHeld ?_
        try simp only [Act.put, List.setIfInBounds_toArray, List.set_cons_zero, List.set_cons_succ]
        refine wpAnyH_take (i := 7) (oi := { dst := some 140, op := Op.move (Operand.const (Value.int IntKind.i64 0)), type := 3, pos := "law.go:36", after := #[], guard := none }) (v := ?q52v) rfl (by kernel_rfl) (by kernel_rfl) (by kernel_rfl) (fun _ _ _ h => h) (Or.inl ⟨by rfl, ?q52h⟩) hHeld ?q52r
        case q52h => (intro wq hSw; clear hSw; go_simp; try with_reducible rfl)
        try simp only [Act.put, List.setIfInBounds_toArray, List.set_cons_zero, List.set_cons_succ]
        refine wpAnyH_ready (rs := [4]) (by kernel_rfl) (by simp) ?_
        refine AllReadyH.cons (o := { dst := some 137, op := Op.call { callee := Callee.value (Operand.func 21), args := #[Operand.tmp 135, Operand.tmp 136], argTypes := #[31, 27] }, type := 27, pos := "law.go:36", after := #[{ on := 2, ground := Ground.data }, { on := 3, ground := Ground.data }], guard := none }) rfl (fun K hK => ?_) (AllReadyH.nil)
        go_simp
        go_wp2_with (go_at_call 21; refine (draw_odd C q pid _ (((HS21.out).drew).codes 1 rfl) HQ.out HId.out.1 HId.out.2).mono ?_; rintro e w22 ⟨o, rfl, ho, _, hb, hc⟩)
        have HS22 : Hid (Hp w [.ob (w.heap.size) 27 (pgCells p), .cd C, .ob B1 27 (pgCells q), .ob B4 36 ((us.map prCells).flatMap id), .ob B5 36 (prCells u)] w22) := ((HS21.out).drew).draws 1 rfl hb hc
        refine hK.out _ _ (HS22.out.pick [0, 2] rfl) (fun hHeld => ?_)
        clear hK K hb hc
        have HOg := Lib.hid ho
        have HOl := Lib.hid ho.len
        clear ho
        try simp only [Act.put, List.setIfInBounds_toArray, List.set_cons_zero, List.set_cons_succ]
        refine wpAnyH_ready (rs := [5]) (by kernel_rfl) (by simp) ?_
        refine AllReadyH.cons (o := { dst := some 138, op := Op.buildSlice 45 3 #[(0, Operand.tmp 133), (1, Operand.tmp 134), (2, Operand.tmp 137)], type := 45, pos := "law.go:36", after := #[{ on := 0, ground := Ground.data }, { on := 1, ground := Ground.data }, { on := 4, ground := Ground.data }], guard := none }) rfl (fun K hK => ?_) (AllReadyH.nil)
        rw [if_pos (by rfl)]
        refine wp_build_obs rfl elem_pg HUPGS.out [pgCells p, pgCells q, pgCells o] (List.forall_mem_cons.2 ⟨(pgCells_len HPl.out), (List.forall_mem_cons.2 ⟨(pgCells_len HQl.out), (List.forall_mem_cons.2 ⟨(pgCells_len HOl.out), (fun _ h => absurd h List.not_mem_nil)⟩)⟩)⟩) (Nat.succ_pos _) (by simp only [List.length_cons, List.length_nil]; omega) rfl (by simp only [List.map_toArray, List.map_cons, List.map_nil, List.zipIdx_cons, List.zipIdx_nil]; exact rfl) ?_
        have HS23 : Hid (Hp w [.ob (w.heap.size) 27 (pgCells p), .cd C, .ob B1 27 (pgCells q), .ob B4 36 ((us.map prCells).flatMap id), .ob B5 36 (prCells u), .ob (w22.heap.size) 27 (([pgCells p, pgCells q, pgCells o] : List (List Value)).flatMap id)] (w22.alloc (.cells (([pgCells p, pgCells q, pgCells o] : List (List Value)).flatMap id).toArray 27))) := (HS22.out).put 27 (([pgCells p, pgCells q, pgCells o] : List (List Value)).flatMap id)
        refine hK.out _ _ (HS23.out.pick [0, 2] rfl) (fun hHeld => ?_)
        clear hK K
        generalize (w22.alloc (.cells (([pgCells p, pgCells q, pgCells o] : List (List Value)).flatMap id).toArray 27)) = w23 at *
        generalize w22.heap.size = B8 at *
        try simp only [Act.put, List.setIfInBounds_toArray, List.set_cons_zero, List.set_cons_succ]
        refine wpAnyH_take (i := 6) (oi := { dst := some 139, op := Op.call { callee := Callee.builtin Builtin.len, args := #[Operand.tmp 138], argTypes := #[45] }, type := 3, pos := "law.go:36", after := #[{ on := 5, ground := Ground.data }], guard := none }) (v := ?q53v) rfl (by kernel_rfl) (by kernel_rfl) (by kernel_rfl) (fun _ _ _ h => h) (Or.inl ⟨by rfl, ?q53h⟩) hHeld ?q53r
        case q53h => (intro wq hSw; clear hSw; go_simp; try with_reducible rfl)
        try simp only [Act.put, List.setIfInBounds_toArray, List.set_cons_zero, List.set_cons_succ]
        refine wpAnyH_done (by kernel_rfl) ?_ _
        have HPg : Hid (∀ y ∈ ([p, q, o] : List Pg), Good y) := by
          intro y hy
          simp only [List.mem_cons, List.not_mem_nil, or_false] at hy
          rcases hy with rfl | rfl | rfl
          · exact HGp.out
          · exact HGq.out
          · exact HOg.out
        have HSd : Hid (Hp w [.ob (w.heap.size) 27 (pgCells p), .cd C, .ob B1 27 (pgCells q), .ob B4 36 ((us.map prCells).flatMap id), .ob B5 36 (prCells u), .ob B8 27 ((([p, q, o] : List Pg).map pgCells).flatMap id)] w23) := HS23.out
        clear HS23
        have HLp : Hid (([p, q, o] : List Pg).length = 3) := rfl
        generalize ([p, q, o] : List Pg) = ps at *
        clear hHeld
        go_wp2_with fail
        go_loopw [140] (fun i wr => ∃ k : Nat, k ≤ 3 ∧ i = .int .i64 k ∧ Hp w [.ob (w.heap.size) 27 (pgCells p), .cd C, .ob B1 27 (pgCells q), .ob B4 36 ((us.map prCells).flatMap id), .ob B5 36 (prCells u), .ob B8 27 ((ps.map pgCells).flatMap id)] wr) (fun i _ => 3 - (intOf i).toNat)
        case atStart => exact ⟨0, by omega, rfl, HSd.out⟩
        case round =>
          obtain ⟨k, hk, rfl, hs⟩ := hrel
          clear HSd
          by_cases hlt : k < 3
          · have HS60 := Lib.hid hs
            clear hs
            have hkl : k < ps.length := by rw [HLp.out]; exact hlt
            obtain ⟨yp, hu⟩ : ∃ y, ps[k] = y := ⟨_, rfl⟩
            have HY1 : Hid ((ps.map pgCells)[k]? = some (pgCells yp)) := by show _ = _; rw [List.getElem?_map, List.getElem?_eq_getElem hkl, hu]; rfl
            have HYls : Hid (∀ y ∈ ps.map pgCells, y.length = 34) := by
              intro y hy
              obtain ⟨v, hv, rfl⟩ := List.mem_map.1 hy
              exact pgCells_len (HPg.out v hv).len
            have HYg : Hid (Good yp) := HPg.out yp (by rw [← hu]; exact List.getElem_mem hkl)
            have HYl := Lib.hid HYg.out.len
            have HAg : Hid (Good (applyR yp u.1).1) := apply_good HYg.out HUg.out.1
            have HAc : Hid (∀ W, Calls Try.prog 22 #[.agg (pgCells yp).toArray, .agg (chCells u.1).toArray] W fun e w' => e = .returned (.tuple #[.agg (pgCells (applyR yp u.1).1).toArray, .int .i64 (applyR yp u.1).2]) ∧ Below W.heap.size W w') := fun W => apply_any yp u.1 W HYg.out HUg.out.1
            have HAr : Hid (∀ W, Calls Try.prog 23 #[.agg (pgCells yp).toArray, .agg (chCells u.1).toArray] W fun e w' => e = .returned (.tuple #[.agg (pgCells (applyR yp u.1).1).toArray, .int .i64 (applyR yp u.1).2]) ∧ Below W.heap.size W w') := fun W => rapply_any yp u.1 W HYg.out HUg.out.1
            generalize (applyR yp u.1).1 = AP at *
            generalize (applyR yp u.1).2 = an at *
            have HAl := Lib.hid HAg.out.len
            have han : (an != an) = false := by simp
            have hAA := neq_pg AP HAg.out
            have hk3 : (k : Int) < 3 := by omega
            clear hu hkl
            go_wp2_with (first | ((with_reducible refine wpList_load_at 27 (.tmp 142) B8 ((k * 34)) (pgCells yp) HUP.out ?_ ?_ ?_ ?_ ?_); (exact rfl); (exact (HS60.out).mid 5 rfl (k * 34) (pgCells yp) (flat_mid (ps.map pgCells) HYls.out k _ HY1.out)); (exact rfl); (exact (info_pgc HYl.out)); simp only [Act.put, List.setIfInBounds_toArray, List.set_cons_zero, List.set_cons_succ]) | ((with_reducible refine wpList_alloc_ob 27 (pgCells (newPg 0)) ?_ ?_); (exact alloc_page); simp only [Act.put, List.setIfInBounds_toArray, List.set_cons_zero, List.set_cons_succ]) | ((with_reducible refine wpList_store_ob 27 (.tmp 20) (wr.heap.size) (pgCells yp) (pgCells (newPg 0)) 27 ?_ ?_ ?_ ?_ ?_ ?_ ?_); (exact rfl); (exact rfl); (exact ((HS60.out).put 27 (pgCells (newPg 0))).get 6 rfl); (exact (info_pgc HYl.out)); (exact (by rw [pgCells_len HYl.out, pgCells_len (p := (newPg 0)) rfl])); (exact (oneCell_pg _)); skip) | ((with_reducible refine wpList_load_ob 27 (.tmp 20) (wr.heap.size) (pgCells yp) 27 HUP.out ?_ ?_ ?_ ?_ ?_); (exact rfl); (exact (((HS60.out).put 27 (pgCells (newPg 0))).row 6 rfl (pgCells yp)).get 6 rfl); (exact rfl); (exact (info_pgc HYl.out)); simp only [Act.put, List.setIfInBounds_toArray, List.set_cons_zero, List.set_cons_succ]) | ((with_reducible refine wpList_load_at 29 (.tmp 146) B5 (0) (chCells u.1) HU.out ?_ ?_ ?_ ?_ ?_); (exact rfl); (exact (((HS60.out).put 27 (pgCells (newPg 0))).row 6 rfl (pgCells yp)).mid 4 rfl (0) _ (pr_first u)); (exact rfl); (exact info_ch); simp only [Act.put, List.setIfInBounds_toArray, List.set_cons_zero, List.set_cons_succ]))
            refine (HAc.out _).mono ?_
            rintro e w24 ⟨rfl, hb⟩
            have HS24 : Hid (Hp w [.ob (w.heap.size) 27 (pgCells p), .cd C, .ob B1 27 (pgCells q), .ob B4 36 ((us.map prCells).flatMap id), .ob B5 36 (prCells u), .ob B8 27 ((ps.map pgCells).flatMap id), .ob (wr.heap.size) 27 (pgCells yp)] w24) := (((HS60.out).put 27 (pgCells (newPg 0))).row 6 rfl (pgCells yp)).calls hb
            clear hb
            clear HS60
            generalize wr.heap.size = B9 at *
            go_wp2_with (first | ((with_reducible refine wpList_alloc_ob 27 (pgCells (newPg 0)) ?_ ?_); (exact alloc_page); simp only [Act.put, List.setIfInBounds_toArray, List.set_cons_zero, List.set_cons_succ]) | ((with_reducible refine wpList_store_ob 27 (.tmp 21) (w24.heap.size) (pgCells AP) (pgCells (newPg 0)) 27 ?_ ?_ ?_ ?_ ?_ ?_ ?_); (exact rfl); (exact rfl); (exact ((HS24.out).put 27 (pgCells (newPg 0))).get 7 rfl); (exact (info_pgc HAl.out)); (exact (by rw [pgCells_len HAl.out, pgCells_len (p := (newPg 0)) rfl])); (exact (oneCell_pg _)); skip) | ((with_reducible refine wpList_load_ob 27 (.tmp 20) B9 (pgCells yp) 27 HUP.out ?_ ?_ ?_ ?_ ?_); (exact rfl); (exact (((HS24.out).put 27 (pgCells (newPg 0))).row 7 rfl (pgCells AP)).get 6 rfl); (exact rfl); (exact (info_pgc HYl.out)); simp only [Act.put, List.setIfInBounds_toArray, List.set_cons_zero, List.set_cons_succ]) | ((with_reducible refine wpList_load_at 29 (.tmp 153) B5 (0) (chCells u.1) HU.out ?_ ?_ ?_ ?_ ?_); (exact rfl); (exact (((HS24.out).put 27 (pgCells (newPg 0))).row 7 rfl (pgCells AP)).mid 4 rfl (0) _ (pr_first u)); (exact rfl); (exact info_ch); simp only [Act.put, List.setIfInBounds_toArray, List.set_cons_zero, List.set_cons_succ]))
            refine (HAr.out _).mono ?_
            rintro e w25 ⟨rfl, hb⟩
            have HS25 : Hid (Hp w [.ob (w.heap.size) 27 (pgCells p), .cd C, .ob B1 27 (pgCells q), .ob B4 36 ((us.map prCells).flatMap id), .ob B5 36 (prCells u), .ob B8 27 ((ps.map pgCells).flatMap id), .ob B9 27 (pgCells yp), .ob (w24.heap.size) 27 (pgCells AP)] w25) := (((HS24.out).put 27 (pgCells (newPg 0))).row 7 rfl (pgCells AP)).calls hb
            clear hb
            clear HS24
            generalize w24.heap.size = B10 at *
            go_wp2_with (first | ((with_reducible refine wpList_alloc_ob 27 (pgCells (newPg 0)) ?_ ?_); (exact alloc_page); simp only [Act.put, List.setIfInBounds_toArray, List.set_cons_zero, List.set_cons_succ]) | ((with_reducible refine wpList_store_ob 27 (.tmp 23) (w25.heap.size) (pgCells AP) (pgCells (newPg 0)) 27 ?_ ?_ ?_ ?_ ?_ ?_ ?_); (exact rfl); (exact rfl); (exact ((HS25.out).put 27 (pgCells (newPg 0))).get 8 rfl); (exact (info_pgc HAl.out)); (exact (by rw [pgCells_len HAl.out, pgCells_len (p := (newPg 0)) rfl])); (exact (oneCell_pg _)); skip) | ((with_reducible refine wpList_load_ob 27 (.tmp 21) B10 (pgCells AP) 27 HUP.out ?_ ?_ ?_ ?_ ?_); (exact rfl); (exact (((HS25.out).put 27 (pgCells (newPg 0))).row 8 rfl (pgCells AP)).get 7 rfl); (exact rfl); (exact (info_pgc HAl.out)); simp only [Act.put, List.setIfInBounds_toArray, List.set_cons_zero, List.set_cons_succ]) | ((with_reducible refine wpList_load_ob 27 (.tmp 23) (w25.heap.size) (pgCells AP) 27 HUP.out ?_ ?_ ?_ ?_ ?_); (exact rfl); (exact (((HS25.out).put 27 (pgCells (newPg 0))).row 8 rfl (pgCells AP)).get 8 rfl); (exact rfl); (exact (info_pgc HAl.out)); simp only [Act.put, List.setIfInBounds_toArray, List.set_cons_zero, List.set_cons_succ]))
            have HS26 : Hid (Hp w [.ob (w.heap.size) 27 (pgCells p), .cd C, .ob B1 27 (pgCells q), .ob B4 36 ((us.map prCells).flatMap id), .ob B5 36 (prCells u), .ob B8 27 ((ps.map pgCells).flatMap id), .ob B9 27 (pgCells yp), .ob B10 27 (pgCells AP), .ob (w25.heap.size) 27 (pgCells AP)] ((w25.alloc (.cells (pgCells (newPg 0)).toArray 27)).setRow (w25.heap.size) (pgCells AP).toArray)) := ((HS25.out).put 27 (pgCells (newPg 0))).row 8 rfl (pgCells AP)
            clear HS25
            generalize ((w25.alloc (.cells (pgCells (newPg 0)).toArray 27)).setRow (w25.heap.size) (pgCells AP).toArray) = w26 at *
            generalize w25.heap.size = B11 at *
            have HS27 : Hid (Hp w [.ob (w.heap.size) 27 (pgCells p), .cd C, .ob B1 27 (pgCells q), .ob B4 36 ((us.map prCells).flatMap id), .ob B5 36 (prCells u), .ob B8 27 ((ps.map pgCells).flatMap id)] w26) := HS26.out.pull [0, 1, 2, 3, 4, 5] rfl (pull_nd HS26.out.nd [0, 1, 2, 3, 4, 5] rfl (by decide))
            clear HS26
            go_roundw
            case rel => exact ⟨k + 1, by omega, by go_num, HS27.out⟩
            case measure => simp [intOf]; omega
          · obtain rfl : k = 3 := by omega
            have HS70 := Lib.hid hs
            clear hs
            have HS28 : Hid (Hp w [.ob (w.heap.size) 27 (pgCells p), .cd C, .ob B1 27 (pgCells q), .ob B4 36 ((us.map prCells).flatMap id)] wr) := HS70.out.pull [0, 1, 2, 3] rfl (pull_nd HS70.out.nd [0, 1, 2, 3] rfl (by decide))
            clear HS70
            go_wp2_with fail
            go_roundw
            case rel => exact ⟨j + 1, by omega, by go_num, HS28.out⟩
            case measure => simp [intOf]; omega
      · obtain rfl : j = 4 := by omega
        go_wp2_with fail
        go_ret
        exact ⟨rfl, hs.old⟩
end Go.Proofs.Ytbadfcnkpeohfaa
