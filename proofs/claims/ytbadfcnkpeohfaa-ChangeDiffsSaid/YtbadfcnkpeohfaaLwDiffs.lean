/- the law ChangeDiffs -/
import Derived.Test.YtbadfcnkpeohfaaDfPair
namespace Go.Proofs.Ytbadfcnkpeohfaa
open Go.RowKit

set_option maxHeartbeats 16000000 in
set_option maxRecDepth 20000 in
theorem diffs_any (x : Option Addr) (len cap : Nat) (zs : List Int) (a b : Pg) (w : World) (hr : IsRow .u8 w x len cap zs) (ha : Good a) (hb : Good b) :
    Calls Try.prog 4 #[.slice x len cap, .agg (pgCells a).toArray, .agg (pgCells b).toArray] w fun e w' => e = .returned (.bool true) ∧ Below w.heap.size w w' := by
  have HR := Lib.hid hr
  clear hr
  obtain ⟨fs, hu⟩ := under_ch
  have HU := Lib.hid hu
  clear hu
  obtain ⟨fp, hu⟩ := under_page
  have HUP := Lib.hid hu
  clear hu
  obtain ⟨fc, hu⟩ := under_cell
  have HUC := Lib.hid hu
  clear hu
  have HUS : Hid (Try.prog.underlying 51 = some (.slice 29)) := Try.underlying51
  have HUPP : Hid (Try.prog.underlying 49 = some (.array 2 27)) := under_pp
  have HUPPS : Hid (Try.prog.underlying 50 = some (.slice 49)) := under_pps
  have HUR : Hid (Try.prog.underlying 25 = some (.array 16 24)) := under_cells
  have HGa := Lib.hid ha
  have HAl := Lib.hid ha.len
  have HGb := Lib.hid hb
  have HBl := Lib.hid hb.len
  clear ha hb
  have h3 := ((Hp.start w).put 27 (pgCells a)).put 27 (pgCells b)
  simp only [World.size_alloc, List.nil_append, List.cons_append] at h3
  have HB0 := Lib.hid h3
  clear h3
  go_enter Try.func4, Try.ntmps4
  go_wp2_with fail
  refine (awake_ch _).mono ?_
  rintro e w1 ⟨rfl, hb⟩
  have HS0 : Hid (Hp w [.ob w.heap.size 27 (pgCells a), .ob (w.heap.size + 1) 27 (pgCells b)] w1) := HB0.out.calls hb
  clear hb
  go_wp2_with fail
  refine (new_hp 200 (by omega) HS0.out HR.out).mono ?_
  rintro e w2 ⟨rfl, hs⟩
  have HS1 : Hid (Hp w [.ob w.heap.size 27 (pgCells a), .ob (w.heap.size + 1) 27 (pgCells b), .cd w1.heap.size] w2) := hs
  clear hs HS0 HR
  generalize w1.heap.size = C at *
  go_wp2_with fail
  refine (draw_page C 2 _ ((HS1.out).codes 2 rfl)).mono ?_
  rintro e w3 ⟨p, rfl, hq, hb, hc⟩
  have HS1 : Hid (Hp w [.ob (w.heap.size) 27 (pgCells a), .ob (w.heap.size + 1) 27 (pgCells b), .cd C] w3) := (HS1.out).draws 2 rfl hb hc
  clear hb hc
  have HP := Lib.hid hq
  have HPl := Lib.hid hq.len
  have HGp := Lib.hid (hq.good (by omega) (by omega))
  clear hq
  go_wp2_with fail
  refine (draw_page C 2 _ ((HS1.out).codes 2 rfl)).mono ?_
  rintro e w4 ⟨q, rfl, hq, hb, hc⟩
  have HS2 : Hid (Hp w [.ob (w.heap.size) 27 (pgCells a), .ob (w.heap.size + 1) 27 (pgCells b), .cd C] w4) := (HS1.out).draws 2 rfl hb hc
  clear hb hc
  clear HS1
  have HQ := Lib.hid hq
  have HQl := Lib.hid hq.len
  have HGq := Lib.hid (hq.good (by omega) (by omega))
  clear hq
  go_upto_region 5 with (first | ((with_reducible refine wpList_alloc_ob 27 (pgCells (newPg 0)) ?_ ?_); (exact alloc_page); simp only [Act.put, List.setIfInBounds_toArray, List.set_cons_zero, List.set_cons_succ]) | ((with_reducible refine wpList_store_ob 27 (.tmp 8) (w4.heap.size) (pgCells p) (pgCells (newPg 0)) 27 ?_ ?_ ?_ ?_ ?_ ?_ ?_); (exact rfl); (exact rfl); (exact (((HS2.out).put 27 (pgCells (newPg 0))).put 27 (pgCells (newPg 0))).get 3 rfl); (exact (info_pgc HPl.out)); (exact (by rw [pgCells_len HPl.out, pgCells_len (p := (newPg 0)) rfl])); (exact (oneCell_pg _)); skip) | ((with_reducible refine wpList_store_ob 27 (.tmp 9) ((w4.alloc (.cells (pgCells (newPg 0)).toArray 27)).heap.size) (pgCells q) (pgCells (newPg 0)) 27 ?_ ?_ ?_ ?_ ?_ ?_ ?_); (exact rfl); (exact rfl); (exact ((((HS2.out).put 27 (pgCells (newPg 0))).put 27 (pgCells (newPg 0))).row 3 rfl (pgCells p)).get 4 rfl); (exact (info_pgc HQl.out)); (exact (by rw [pgCells_len HQl.out, pgCells_len (p := (newPg 0)) rfl])); (exact (oneCell_pg _)); skip))
  have HS3 : Hid (Hp w [.ob (w.heap.size) 27 (pgCells a), .ob (w.heap.size + 1) 27 (pgCells b), .cd C, .ob (w4.heap.size) 27 (pgCells p), .ob ((w4.alloc (.cells (pgCells (newPg 0)).toArray 27)).heap.size) 27 (pgCells q)] ((((w4.alloc (.cells (pgCells (newPg 0)).toArray 27)).alloc (.cells (pgCells (newPg 0)).toArray 27)).setRow (w4.heap.size) (pgCells p).toArray).setRow ((w4.alloc (.cells (pgCells (newPg 0)).toArray 27)).heap.size) (pgCells q).toArray)) := ((((HS2.out).put 27 (pgCells (newPg 0))).put 27 (pgCells (newPg 0))).row 3 rfl (pgCells p)).row 4 rfl (pgCells q)
  clear HS2
  generalize ((((w4.alloc (.cells (pgCells (newPg 0)).toArray 27)).alloc (.cells (pgCells (newPg 0)).toArray 27)).setRow (w4.heap.size) (pgCells p).toArray).setRow ((w4.alloc (.cells (pgCells (newPg 0)).toArray 27)).heap.size) (pgCells q).toArray) = w5 at *
  generalize (w4.alloc (.cells (pgCells (newPg 0)).toArray 27)).heap.size = B1 at *
  generalize w4.heap.size = B2 at *
  refine wp_region_held_drew (S := fun w' => Hold w.heap.size [.ob (w.heap.size) 27 (pgCells a), .ob (w.heap.size + 1) 27 (pgCells b), .ob B2 27 (pgCells p), .ob B1 27 (pgCells q)] w') (by kernel_rfl) ((HS3.out).drew.pick [0, 1, 3, 4] rfl) (fun hHeld => ?_)
  refine wpAnyH_take (i := 0) (oi := { dst := some 32, op := Op.load 27 (Operand.tmp 4), type := 27, pos := "law.go:54", after := #[], guard := none }) rfl (by kernel_rfl) (by kernel_rfl) (by kernel_rfl) (fun _ _ _ h => h) (yieldsIf_load_mid (by rfl) 27 (.tmp 4) rfl (w.heap.size) 0 rfl (pgCells a) _ (fun _ h => h.whole 0 rfl) HUP.out rfl ((info_pgc HAl.out))) hHeld ?_
  try simp only [Act.put, List.setIfInBounds_toArray, List.set_cons_zero, List.set_cons_succ]
  refine wpAnyH_take (i := 1) (oi := { dst := some 33, op := Op.load 27 (Operand.tmp 5), type := 27, pos := "law.go:54", after := #[], guard := none }) rfl (by kernel_rfl) (by kernel_rfl) (by kernel_rfl) (fun _ _ _ h => h) (yieldsIf_load_mid (by rfl) 27 (.tmp 5) rfl (w.heap.size + 1) 0 rfl (pgCells b) _ (fun _ h => h.whole 1 rfl) HUP.out rfl ((info_pgc HBl.out))) hHeld ?_
  try simp only [Act.put, List.setIfInBounds_toArray, List.set_cons_zero, List.set_cons_succ]
  refine wpAnyH_take (i := 2) (oi := { dst := some 34, op := Op.build 49 #[(0, Operand.tmp 32), (1, Operand.tmp 33)], type := 49, pos := "law.go:54", after := #[{ on := 0, ground := Ground.data }, { on := 1, ground := Ground.data }], guard := none }) rfl (by kernel_rfl) (by kernel_rfl) (by kernel_rfl) (fun _ _ _ h => h) (yieldsIf_build_v (by rfl) 49 (.agg (ppCells (a, b)).toArray) rfl (fun W => by simp only [List.map_toArray, List.map_cons, List.map_nil]; exact (build_pp a b HAl.out HBl.out) W)) hHeld ?_
  try simp only [Act.put, List.setIfInBounds_toArray, List.set_cons_zero, List.set_cons_succ]
  refine wpAnyH_take (i := 3) (oi := { dst := some 35, op := Op.load 27 (Operand.tmp 8), type := 27, pos := "law.go:54", after := #[], guard := none }) rfl (by kernel_rfl) (by kernel_rfl) (by kernel_rfl) (fun _ _ _ h => h) (yieldsIf_load_mid (by rfl) 27 (.tmp 8) rfl B2 0 rfl (pgCells p) _ (fun _ h => h.whole 2 rfl) HUP.out rfl ((info_pgc HPl.out))) hHeld ?_
  try simp only [Act.put, List.setIfInBounds_toArray, List.set_cons_zero, List.set_cons_succ]
  refine wpAnyH_take (i := 4) (oi := { dst := some 36, op := Op.load 27 (Operand.tmp 9), type := 27, pos := "law.go:54", after := #[], guard := none }) rfl (by kernel_rfl) (by kernel_rfl) (by kernel_rfl) (fun _ _ _ h => h) (yieldsIf_load_mid (by rfl) 27 (.tmp 9) rfl B1 0 rfl (pgCells q) _ (fun _ h => h.whole 3 rfl) HUP.out rfl ((info_pgc HQl.out))) hHeld ?_
  try simp only [Act.put, List.setIfInBounds_toArray, List.set_cons_zero, List.set_cons_succ]
  refine wpAnyH_take (i := 5) (oi := { dst := some 37, op := Op.build 49 #[(0, Operand.tmp 35), (1, Operand.tmp 36)], type := 49, pos := "law.go:54", after := #[{ on := 3, ground := Ground.data }, { on := 4, ground := Ground.data }], guard := none }) rfl (by kernel_rfl) (by kernel_rfl) (by kernel_rfl) (fun _ _ _ h => h) (yieldsIf_build_v (by rfl) 49 (.agg (ppCells (p, q)).toArray) rfl (fun W => by simp only [List.map_toArray, List.map_cons, List.map_nil]; exact (build_pp p q HPl.out HQl.out) W)) hHeld ?_
  try simp only [Act.put, List.setIfInBounds_toArray, List.set_cons_zero, List.set_cons_succ]
  refine wpAnyH_take (i := 6) (oi := { dst := some 38, op := Op.load 27 (Operand.tmp 8), type := 27, pos := "law.go:54", after := #[], guard := none }) rfl (by kernel_rfl) (by kernel_rfl) (by kernel_rfl) (fun _ _ _ h => h) (yieldsIf_load_mid (by rfl) 27 (.tmp 8) rfl B2 0 rfl (pgCells p) _ (fun _ h => h.whole 2 rfl) HUP.out rfl ((info_pgc HPl.out))) hHeld ?_
  try simp only [Act.put, List.setIfInBounds_toArray, List.set_cons_zero, List.set_cons_succ]
  refine wpAnyH_take (i := 7) (oi := { dst := some 39, op := Op.move (Operand.tmp 7), type := 31, pos := "law.go:54", after := #[], guard := none }) (v := ?q8v) rfl (by kernel_rfl) (by kernel_rfl) (by kernel_rfl) (fun _ _ _ h => h) (Or.inl ⟨by rfl, ?q8h⟩) hHeld ?q8r
  case q8h => (intro wq hSw; clear hSw; go_simp; try with_reducible rfl)
  try simp only [Act.put, List.setIfInBounds_toArray, List.set_cons_zero, List.set_cons_succ]
  refine wpAnyH_take (i := 8) (oi := { dst := some 40, op := Op.load 27 (Operand.tmp 9), type := 27, pos := "law.go:54", after := #[], guard := none }) rfl (by kernel_rfl) (by kernel_rfl) (by kernel_rfl) (fun _ _ _ h => h) (yieldsIf_load_mid (by rfl) 27 (.tmp 9) rfl B1 0 rfl (pgCells q) _ (fun _ h => h.whole 3 rfl) HUP.out rfl ((info_pgc HQl.out))) hHeld ?_
  try simp only [Act.put, List.setIfInBounds_toArray, List.set_cons_zero, List.set_cons_succ]
  refine wpAnyH_take (i := 11) (oi := { dst := some 43, op := Op.move (Operand.tmp 7), type := 31, pos := "law.go:54", after := #[], guard := none }) (v := ?q10v) rfl (by kernel_rfl) (by kernel_rfl) (by kernel_rfl) (fun _ _ _ h => h) (Or.inl ⟨by rfl, ?q10h⟩) hHeld ?q10r
  case q10h => (intro wq hSw; clear hSw; go_simp; try with_reducible rfl)
  try simp only [Act.put, List.setIfInBounds_toArray, List.set_cons_zero, List.set_cons_succ]
  refine wpAnyH_take (i := 12) (oi := { dst := some 44, op := Op.load 27 (Operand.tmp 8), type := 27, pos := "law.go:54", after := #[], guard := none }) rfl (by kernel_rfl) (by kernel_rfl) (by kernel_rfl) (fun _ _ _ h => h) (yieldsIf_load_mid (by rfl) 27 (.tmp 8) rfl B2 0 rfl (pgCells p) _ (fun _ h => h.whole 2 rfl) HUP.out rfl ((info_pgc HPl.out))) hHeld ?_
  try simp only [Act.put, List.setIfInBounds_toArray, List.set_cons_zero, List.set_cons_succ]
  refine wpAnyH_take (i := 14) (oi := { dst := some 46, op := Op.load 27 (Operand.tmp 9), type := 27, pos := "law.go:54", after := #[], guard := none }) rfl (by kernel_rfl) (by kernel_rfl) (by kernel_rfl) (fun _ _ _ h => h) (yieldsIf_load_mid (by rfl) 27 (.tmp 9) rfl B1 0 rfl (pgCells q) _ (fun _ h => h.whole 3 rfl) HUP.out rfl ((info_pgc HQl.out))) hHeld ?_
  try simp only [Act.put, List.setIfInBounds_toArray, List.set_cons_zero, List.set_cons_succ]
  refine wpAnyH_take (i := 18) (oi := { dst := some 50, op := Op.move (Operand.const (Value.int IntKind.i64 0)), type := 3, pos := "law.go:54", after := #[], guard := none }) (v := ?q13v) rfl (by kernel_rfl) (by kernel_rfl) (by kernel_rfl) (fun _ _ _ h => h) (Or.inl ⟨by rfl, ?q13h⟩) hHeld ?q13r
  case q13h => (intro wq hSw; clear hSw; go_simp; try with_reducible rfl)
  try simp only [Act.put, List.setIfInBounds_toArray, List.set_cons_zero, List.set_cons_succ]
  refine wpAnyH_ready (rs := [9]) (by kernel_rfl) (by simp) ?_
  refine AllReadyH.cons (o := { dst := some 41, op := Op.call { callee := Callee.value (Operand.func 21), args := #[Operand.tmp 39, Operand.tmp 40], argTypes := #[31, 27] }, type := 27, pos := "law.go:54", after := #[{ on := 7, ground := Ground.data }, { on := 8, ground := Ground.data }], guard := none }) rfl (fun K hK => ?_) (AllReadyH.nil)
  go_simp
  go_wp2_with (go_at_call 21; refine (draw_odd C q 2 _ (((HS3.out).drew).codes 2 rfl) HQ.out (by omega) (by omega)).mono ?_; rintro e w6 ⟨o1, rfl, ho, _, hb, hc⟩)
  have HS4 : Hid (Hp w [.ob (w.heap.size) 27 (pgCells a), .ob (w.heap.size + 1) 27 (pgCells b), .cd C, .ob B2 27 (pgCells p), .ob B1 27 (pgCells q)] w6) := ((HS3.out).drew).draws 2 rfl hb hc
  refine hK.out _ _ (HS4.out.pick [0, 1, 3, 4] rfl) (fun hHeld => ?_)
  clear hK K hb hc
  have HGo1 := Lib.hid ho
  have HO1l := Lib.hid ho.len
  clear ho
  try simp only [Act.put, List.setIfInBounds_toArray, List.set_cons_zero, List.set_cons_succ]
  refine wpAnyH_take (i := 10) (oi := { dst := some 42, op := Op.build 49 #[(0, Operand.tmp 38), (1, Operand.tmp 41)], type := 49, pos := "law.go:54", after := #[{ on := 6, ground := Ground.data }, { on := 9, ground := Ground.data }], guard := none }) rfl (by kernel_rfl) (by kernel_rfl) (by kernel_rfl) (fun _ _ _ h => h) (yieldsIf_build_v (by rfl) 49 (.agg (ppCells (p, o1)).toArray) rfl (fun W => by simp only [List.map_toArray, List.map_cons, List.map_nil]; exact (build_pp p o1 HPl.out HO1l.out) W)) hHeld ?_
  try simp only [Act.put, List.setIfInBounds_toArray, List.set_cons_zero, List.set_cons_succ]
  refine wpAnyH_ready (rs := [13]) (by kernel_rfl) (by simp) ?_
  refine AllReadyH.cons (o := { dst := some 45, op := Op.call { callee := Callee.value (Operand.func 21), args := #[Operand.tmp 43, Operand.tmp 44], argTypes := #[31, 27] }, type := 27, pos := "law.go:54", after := #[{ on := 11, ground := Ground.data }, { on := 12, ground := Ground.data }, { on := 9, ground := Ground.chain }], guard := none }) rfl (fun K hK => ?_) (AllReadyH.nil)
  go_simp
  go_wp2_with (go_at_call 21; refine (draw_odd C p 2 _ ((HS4.out).codes 2 rfl) HP.out (by omega) (by omega)).mono ?_; rintro e w7 ⟨o2, rfl, ho, _, hb, hc⟩)
  have HS5 : Hid (Hp w [.ob (w.heap.size) 27 (pgCells a), .ob (w.heap.size + 1) 27 (pgCells b), .cd C, .ob B2 27 (pgCells p), .ob B1 27 (pgCells q)] w7) := (HS4.out).draws 2 rfl hb hc
  refine hK.out _ _ (HS5.out.pick [0, 1, 3, 4] rfl) (fun hHeld => ?_)
  clear hK K hb hc
  have HGo2 := Lib.hid ho
  have HO2l := Lib.hid ho.len
  clear ho
  try simp only [Act.put, List.setIfInBounds_toArray, List.set_cons_zero, List.set_cons_succ]
  refine wpAnyH_take (i := 15) (oi := { dst := some 47, op := Op.build 49 #[(0, Operand.tmp 45), (1, Operand.tmp 46)], type := 49, pos := "law.go:54", after := #[{ on := 13, ground := Ground.data }, { on := 14, ground := Ground.data }], guard := none }) rfl (by kernel_rfl) (by kernel_rfl) (by kernel_rfl) (fun _ _ _ h => h) (yieldsIf_build_v (by rfl) 49 (.agg (ppCells (o2, q)).toArray) rfl (fun W => by simp only [List.map_toArray, List.map_cons, List.map_nil]; exact (build_pp o2 q HO2l.out HQl.out) W)) hHeld ?_
  try simp only [Act.put, List.setIfInBounds_toArray, List.set_cons_zero, List.set_cons_succ]
  refine wpAnyH_ready (rs := [16]) (by kernel_rfl) (by simp) ?_
  refine AllReadyH.cons (o := { dst := some 48, op := Op.buildSlice 50 4 #[(0, Operand.tmp 34), (1, Operand.tmp 37), (2, Operand.tmp 42), (3, Operand.tmp 47)], type := 50, pos := "law.go:54", after := #[{ on := 2, ground := Ground.data }, { on := 5, ground := Ground.data }, { on := 10, ground := Ground.data }, { on := 15, ground := Ground.data }], guard := none }) rfl (fun K hK => ?_) (AllReadyH.nil)
  rw [if_pos (by rfl)]
  refine wp_build_obs rfl elem_pp HUPPS.out [ppCells (a, b), ppCells (p, q), ppCells (p, o1), ppCells (o2, q)] (List.forall_mem_cons.2 ⟨(ppCells_len ⟨HGa.out, HGb.out⟩), (List.forall_mem_cons.2 ⟨(ppCells_len ⟨HGp.out, HGq.out⟩), (List.forall_mem_cons.2 ⟨(ppCells_len ⟨HGp.out, HGo1.out⟩), (List.forall_mem_cons.2 ⟨(ppCells_len ⟨HGo2.out, HGq.out⟩), (fun _ h => absurd h List.not_mem_nil)⟩)⟩)⟩)⟩) (Nat.succ_pos _) (by simp only [List.length_cons, List.length_nil]; omega) rfl (by simp only [List.map_toArray, List.map_cons, List.map_nil, List.zipIdx_cons, List.zipIdx_nil]; exact rfl) ?_
  have HS6 : Hid (Hp w [.ob (w.heap.size) 27 (pgCells a), .ob (w.heap.size + 1) 27 (pgCells b), .cd C, .ob B2 27 (pgCells p), .ob B1 27 (pgCells q), .ob (w7.heap.size) 49 (([ppCells (a, b), ppCells (p, q), ppCells (p, o1), ppCells (o2, q)] : List (List Value)).flatMap id)] (w7.alloc (.cells (([ppCells (a, b), ppCells (p, q), ppCells (p, o1), ppCells (o2, q)] : List (List Value)).flatMap id).toArray 49))) := (HS5.out).put 49 (([ppCells (a, b), ppCells (p, q), ppCells (p, o1), ppCells (o2, q)] : List (List Value)).flatMap id)
  refine hK.out _ _ (HS6.out.pick [0, 1, 3, 4] rfl) (fun hHeld => ?_)
  clear hK K
  generalize (w7.alloc (.cells (([ppCells (a, b), ppCells (p, q), ppCells (p, o1), ppCells (o2, q)] : List (List Value)).flatMap id).toArray 49)) = w8 at *
  generalize w7.heap.size = B3 at *
  try simp only [Act.put, List.setIfInBounds_toArray, List.set_cons_zero, List.set_cons_succ]
  refine wpAnyH_take (i := 17) (oi := { dst := some 49, op := Op.call { callee := Callee.builtin Builtin.len, args := #[Operand.tmp 48], argTypes := #[50] }, type := 3, pos := "law.go:54", after := #[{ on := 16, ground := Ground.data }], guard := none }) (v := ?q16v) rfl (by kernel_rfl) (by kernel_rfl) (by kernel_rfl) (fun _ _ _ h => h) (Or.inl ⟨by rfl, ?q16h⟩) hHeld ?q16r
  case q16h => (intro wq hSw; clear hSw; go_simp; try with_reducible rfl)
  try simp only [Act.put, List.setIfInBounds_toArray, List.set_cons_zero, List.set_cons_succ]
  refine wpAnyH_done (by kernel_rfl) ?_ _
  have HZg : Hid (∀ u ∈ ([(a, b), (p, q), (p, o1), (o2, q)] : List (Pg × Pg)), PpOk u) := by
    intro u hu
    simp only [List.mem_cons, List.not_mem_nil, or_false] at hu
    rcases hu with rfl | rfl | rfl | rfl
    · exact ⟨HGa.out, HGb.out⟩
    · exact ⟨HGp.out, HGq.out⟩
    · exact ⟨HGp.out, HGo1.out⟩
    · exact ⟨HGo2.out, HGq.out⟩
  have HSd : Hid (Hp w [.ob (w.heap.size) 27 (pgCells a), .ob (w.heap.size + 1) 27 (pgCells b), .cd C, .ob B2 27 (pgCells p), .ob B1 27 (pgCells q), .ob B3 49 ((([(a, b), (p, q), (p, o1), (o2, q)] : List (Pg × Pg)).map ppCells).flatMap id)] w8) := HS6.out
  clear HS6
  have HLz : Hid (([(a, b), (p, q), (p, o1), (o2, q)] : List (Pg × Pg)).length = 4) := rfl
  generalize ([(a, b), (p, q), (p, o1), (o2, q)] : List (Pg × Pg)) = us at *
  have HS7 : Hid (Hp w [.cd C, .ob B2 27 (pgCells p), .ob B1 27 (pgCells q), .ob B3 49 ((us.map ppCells).flatMap id)] w8) := HSd.out.pull [2, 3, 4, 5] rfl (pull_nd HSd.out.nd [2, 3, 4, 5] rfl (by decide))
  clear HSd
  clear hHeld
  go_wp2_with fail
  go_loopw [50] (fun i wr => ∃ j : Nat, j ≤ 4 ∧ i = .int .i64 j ∧ Hp w [.cd C, .ob B2 27 (pgCells p), .ob B1 27 (pgCells q), .ob B3 49 ((us.map ppCells).flatMap id)] wr) (fun i _ => 4 - (intOf i).toNat)
  case atStart => exact ⟨0, by omega, rfl, HS7.out⟩
  case round =>
    obtain ⟨j, hj, rfl, hs⟩ := hrel
    clear HS7
    by_cases hlt : j < 4
    · have HS20 := Lib.hid hs
      clear hs
      have hjl : j < us.length := by rw [HLz.out]; exact hlt
      obtain ⟨u, hu⟩ : ∃ u, us[j] = u := ⟨_, rfl⟩
      have HU1 : Hid ((us.map ppCells)[j]? = some (ppCells u)) := by show _ = _; rw [List.getElem?_map, List.getElem?_eq_getElem hjl, hu]; rfl
      have HUl : Hid (∀ y ∈ us.map ppCells, y.length = 68) := by
        intro y hy
        obtain ⟨v, hv, rfl⟩ := List.mem_map.1 hy
        exact ppCells_len (HZg.out v hv)
      have HUp : Hid (PpOk u) := HZg.out u (by rw [← hu]; exact List.getElem_mem hjl)
      have hj4 : (j : Int) < 4 := by omega
      clear hu hjl
      have HDc : Hid (∀ W, Calls Try.prog 24 #[.agg (pgCells u.1).toArray, .agg (pgCells u.2).toArray] W (DiffPost u.1 u.2 W)) := fun W => diff_any u.1 u.2 W HUp.out.first HUp.out.second
      have HDr : Hid (∀ W, Calls Try.prog 25 #[.agg (pgCells u.1).toArray, .agg (pgCells u.2).toArray] W (DiffPost u.1 u.2 W)) := fun W => rdiff_any u.1 u.2 W HUp.out.first HUp.out.second
      have HDg := Lib.hid (diffR_good HUp.out.first HUp.out.second)
      have HDl := Lib.hid (diffR_len (q := u.2) HUp.out.first)
      unfold DiffPost at HDc HDr
      generalize (diffR u.1 u.2).1 = D at *
      generalize (diffR u.1 u.2).2 = dn at *
      have hdn : (dn != dn) = false := by simp
      go_upto_region 8 with (first | ((with_reducible refine wpList_load_at 49 (.tmp 52) B3 ((j * 68)) (ppCells u) HUPP.out ?_ ?_ ?_ ?_ ?_); (exact rfl); (exact (HS20.out).mid 3 rfl (j * 68) (ppCells u) (flat_mid (us.map ppCells) HUl.out j _ HU1.out)); (exact rfl); (exact (info_pp HUp.out)); simp only [Act.put, List.setIfInBounds_toArray, List.set_cons_zero, List.set_cons_succ]) | ((with_reducible refine wpList_alloc_ob 49 (ppCells (newPg 0, newPg 0)) ?_ ?_); (exact alloc_pp); simp only [Act.put, List.setIfInBounds_toArray, List.set_cons_zero, List.set_cons_succ]) | ((with_reducible refine wpList_store_ob 49 (.tmp 11) (wr.heap.size) (ppCells u) (ppCells (newPg 0, newPg 0)) 49 ?_ ?_ ?_ ?_ ?_ ?_ ?_); (exact rfl); (exact rfl); (exact ((HS20.out).put 49 (ppCells (newPg 0, newPg 0))).get 4 rfl); (exact (info_pp HUp.out)); (exact (by rw [ppCells_len HUp.out, ppCells_len (u := (newPg 0, newPg 0)) ppNil])); (exact (oneCell_pp _)); skip))
      have HS8 : Hid (Hp w [.cd C, .ob B2 27 (pgCells p), .ob B1 27 (pgCells q), .ob B3 49 ((us.map ppCells).flatMap id), .ob (wr.heap.size) 49 (ppCells u)] ((wr.alloc (.cells (ppCells (newPg 0, newPg 0)).toArray 49)).setRow (wr.heap.size) (ppCells u).toArray)) := ((HS20.out).put 49 (ppCells (newPg 0, newPg 0))).row 4 rfl (ppCells u)
      clear HS20
      generalize ((wr.alloc (.cells (ppCells (newPg 0, newPg 0)).toArray 49)).setRow (wr.heap.size) (ppCells u).toArray) = w9 at *
      generalize wr.heap.size = B4 at *
      go_wp2_with (first | ((with_reducible refine wpList_load_at 27 (.tmp 55) B4 (0) (pgCells u.1) HUP.out ?_ ?_ ?_ ?_ ?_); (exact rfl); (exact (HS8.out).mid 4 rfl (0) _ (pp_first u)); (exact rfl); (exact (info_pgc HUp.out.first.len)); simp only [Act.put, List.setIfInBounds_toArray, List.set_cons_zero, List.set_cons_succ]) | ((with_reducible refine wpList_load_at 27 (.tmp 57) B4 (34) (pgCells u.2) HUP.out ?_ ?_ ?_ ?_ ?_); (exact rfl); (exact (HS8.out).mid 4 rfl (34) _ (pp_second HUp.out)); (exact rfl); (exact (info_pgc HUp.out.second.len)); simp only [Act.put, List.setIfInBounds_toArray, List.set_cons_zero, List.set_cons_succ]))
      refine (HDc.out _).mono ?_
      rintro e w10 ⟨v1, rfl, hb, ho⟩
      have HS9 : Hid (Hp w [.cd C, .ob B2 27 (pgCells p), .ob B1 27 (pgCells q), .ob B3 49 ((us.map ppCells).flatMap id), .ob B4 49 (ppCells u), .sl v1 29 6 (D.length) (D.flatMap chCells)] w10) := (HS8.out).addown hb ho
      clear hb ho
      clear HS8
      go_wp2_with (first | ((with_reducible refine wpList_load_at 27 (.tmp 63) B4 (0) (pgCells u.1) HUP.out ?_ ?_ ?_ ?_ ?_); (exact rfl); (exact (HS9.out).mid 4 rfl (0) _ (pp_first u)); (exact rfl); (exact (info_pgc HUp.out.first.len)); simp only [Act.put, List.setIfInBounds_toArray, List.set_cons_zero, List.set_cons_succ]) | ((with_reducible refine wpList_load_at 27 (.tmp 65) B4 (34) (pgCells u.2) HUP.out ?_ ?_ ?_ ?_ ?_); (exact rfl); (exact (HS9.out).mid 4 rfl (34) _ (pp_second HUp.out)); (exact rfl); (exact (info_pgc HUp.out.second.len)); simp only [Act.put, List.setIfInBounds_toArray, List.set_cons_zero, List.set_cons_succ]))
      refine (HDr.out _).mono ?_
      rintro e w11 ⟨v2, rfl, hb, ho⟩
      have HS10 : Hid (Hp w [.cd C, .ob B2 27 (pgCells p), .ob B1 27 (pgCells q), .ob B3 49 ((us.map ppCells).flatMap id), .ob B4 49 (ppCells u), .sl v1 29 6 (D.length) (D.flatMap chCells), .sl v2 29 6 (D.length) (D.flatMap chCells)] w11) := (HS9.out).addown hb ho
      clear hb ho
      clear HS9
      go_wp2_with fail
      refine (same_any _ (slIs_own ((HS10.out).own 5 rfl)) (slIs_own ((HS10.out).own 6 rfl)) HDl.out HDg.out).mono ?_
      rintro e w12 ⟨rfl, hb⟩
      have HS11 : Hid (Hp w [.cd C, .ob B2 27 (pgCells p), .ob B1 27 (pgCells q), .ob B3 49 ((us.map ppCells).flatMap id), .ob B4 49 (ppCells u), .sl v1 29 6 (D.length) (D.flatMap chCells), .sl v2 29 6 (D.length) (D.flatMap chCells)] w12) := (HS10.out).calls hb
      clear hb
      clear HS10
      have HS12 : Hid (Hp w [.cd C, .ob B2 27 (pgCells p), .ob B1 27 (pgCells q), .ob B3 49 ((us.map ppCells).flatMap id)] w12) := HS11.out.pull [0, 1, 2, 3] rfl (pull_nd HS11.out.nd [0, 1, 2, 3] rfl (by decide))
      clear HS11
      go_wp2_with fail
      go_roundw
      case rel => exact ⟨j + 1, by omega, by go_num, HS12.out⟩
      case measure => simp [intOf]; omega
    · obtain rfl : j = 4 := by omega
      have HS40 := Lib.hid hs
      clear hs
      have HS13 : Hid (Hp w [.cd C, .ob B2 27 (pgCells p), .ob B1 27 (pgCells q)] wr) := HS40.out.pull [0, 1, 2] rfl (pull_nd HS40.out.nd [0, 1, 2] rfl (by decide))
      clear HS40
      have HDc : Hid (∀ W, Calls Try.prog 24 #[.agg (pgCells p).toArray, .agg (pgCells q).toArray] W (DiffPost p q W)) := fun W => diff_any p q W HGp.out HGq.out
      unfold DiffPost at HDc
      rw [diffR_drawn HP.out HQ.out] at HDc
      have HDg : Hid (∀ y ∈ diffL 2 0 p.cells q.cells, GoodCh y) := diffL_good (by decide) HPl.out HGp.out.data HGq.out.data
      have HD0 : Hid (RowOf p q p.cells (diffL 2 0 p.cells q.cells).length 0) := ⟨Mid.start, by rw [diffL_todo]; rfl⟩
      have HDn : Hid (∀ (r : List Cl) (i : Nat), RowOf p q r (diffL 2 0 p.cells q.cells).length i → i < (diffL 2 0 p.cells q.cells).length → (∀ (k : Nat) (c : Chg), (diffL 2 0 p.cells q.cells)[k]? = some c → Done r c) → False) := fun r i h => h.some_left HGp.out HGq.out
      have HDx : Hid (∀ (r : List Cl) (i k : Nat) (c : Chg), RowOf p q r (diffL 2 0 p.cells q.cells).length i → (diffL 2 0 p.cells q.cells)[k]? = some c → ¬ Done r c → GoodCh c ∧ ∃ s : Nat, s < 16 ∧ applyR (pgWith p r) c = (pgWith p (r.set s c.after), 0) ∧ RowOf p q (r.set s c.after) (diffL 2 0 p.cells q.cells).length (i + 1)) := fun r i k c h hc hn => h.next HP.out HQ.out hc hn
      have HDs : Hid (∀ (k : Nat) (c : Chg), (diffL 2 0 p.cells q.cells)[k]? = some c → ∃ s : Nat, s < 16 ∧ c.slot = (s : Int)) := fun k c h => by
        obtain ⟨s, _, _, h1, _, _, h4⟩ := diffL_get 2 0 p.cells q.cells k c h
        exact ⟨s, by have := (List.getElem?_eq_some_iff.1 h1).1; rw [HPl.out] at this; exact this, by rw [h4, Nat.zero_add]⟩
      have HDl : Hid ((diffL 2 0 p.cells q.cells).length ≤ 16) := by
        show _ ≤ _
        have := diffL_len 2 0 p.cells q.cells
        rw [HPl.out] at this
        exact this
      generalize diffL 2 0 p.cells q.cells = D at *
      go_wp2_with (first | ((with_reducible refine wpList_load_ob 27 (.tmp 8) B2 (pgCells p) 27 HUP.out ?_ ?_ ?_ ?_ ?_); (exact rfl); (exact (HS13.out).get 1 rfl); (exact rfl); (exact (info_pgc HPl.out)); simp only [Act.put, List.setIfInBounds_toArray, List.set_cons_zero, List.set_cons_succ]) | ((with_reducible refine wpList_load_ob 27 (.tmp 9) B1 (pgCells q) 27 HUP.out ?_ ?_ ?_ ?_ ?_); (exact rfl); (exact (HS13.out).get 2 rfl); (exact rfl); (exact (info_pgc HQl.out)); simp only [Act.put, List.setIfInBounds_toArray, List.set_cons_zero, List.set_cons_succ]))
      refine (HDc.out _).mono ?_
      rintro e w13 ⟨v, rfl, hb, ho⟩
      have HS14 : Hid (Hp w [.cd C, .ob B2 27 (pgCells p), .ob B1 27 (pgCells q), .sl v 29 6 (D.length) (D.flatMap chCells)] w13) := (HS13.out).addown hb ho
      clear hb ho
      clear HS13
      obtain ⟨ga, gc, rfl, hga⟩ := slIs_own (HS14.out.own 3 rfl)
      have HGA : Hid (0 < D.length → ∃ g, ga = some ⟨g, 0, none⟩ ∧ D.length ≤ gc ∧ gc ≤ maxLen) := fun h => by
        obtain ⟨g, h1, h2, h3, _⟩ := hga h
        exact ⟨g, h1, h2, h3⟩
      clear hga
      go_wp2_with (first | ((with_reducible refine wpList_load_ob 27 (.tmp 8) B2 (pgCells p) 27 HUP.out ?_ ?_ ?_ ?_ ?_); (exact rfl); (exact (HS14.out).get 1 rfl); (exact rfl); (exact (info_pgc HPl.out)); simp only [Act.put, List.setIfInBounds_toArray, List.set_cons_zero, List.set_cons_succ]) | ((with_reducible refine wpList_alloc_ob 27 (pgCells (newPg 0)) ?_ ?_); (exact alloc_page); simp only [Act.put, List.setIfInBounds_toArray, List.set_cons_zero, List.set_cons_succ]) | ((with_reducible refine wpList_store_ob 27 (.tmp 18) (w13.heap.size) (pgCells p) (pgCells (newPg 0)) 27 ?_ ?_ ?_ ?_ ?_ ?_ ?_); (exact rfl); (exact rfl); (exact ((HS14.out).put 27 (pgCells (newPg 0))).get 4 rfl); (exact (info_pgc HPl.out)); (exact (by rw [pgCells_len HPl.out, pgCells_len (p := (newPg 0)) rfl])); (exact (oneCell_pg _)); skip))
      have HS15 : Hid (Hp w [.cd C, .ob B2 27 (pgCells p), .ob B1 27 (pgCells q), .sl (.slice ga D.length gc) 29 6 (D.length) (D.flatMap chCells), .ob (w13.heap.size) 27 (pgCells p)] ((w13.alloc (.cells (pgCells (newPg 0)).toArray 27)).setRow (w13.heap.size) (pgCells p).toArray)) := ((HS14.out).put 27 (pgCells (newPg 0))).row 4 rfl (pgCells p)
      clear HS14
      generalize ((w13.alloc (.cells (pgCells (newPg 0)).toArray 27)).setRow (w13.heap.size) (pgCells p).toArray) = w14 at *
      generalize w13.heap.size = B5 at *
      have hdl : (D.length : Int) ≤ 16 := by have := HDl.out; omega
      go_loopw [19] (fun i wr => ∃ (ni : Nat) (r : List Cl), ni ≤ D.length ∧ i = .int .i64 ni ∧ RowOf p q r D.length ni ∧ Hp w [.cd C, .ob B2 27 (pgCells p), .ob B1 27 (pgCells q), .sl (.slice ga D.length gc) 29 6 (D.length) (D.flatMap chCells), .ob B5 27 (pgCells (pgWith p r))] wr) (fun i _ => D.length - (intOf i).toNat)
      case atStart => exact ⟨0, p.cells, by omega, rfl, HD0.out, HS15.out⟩
      case round =>
        obtain ⟨ni, r, hni, rfl, hro, hs⟩ := hrel
        clear HS15
        have HRo := Lib.hid hro
        have HRg := Lib.hid (hro.good HGp.out HGq.out)
        clear hro
        by_cases hlt : ni < D.length
        · have HS60 := Lib.hid hs
          clear hs
          have hnl : (ni : Int) < (D.length : Int) := by omega
          have h0D : 0 < D.length := by omega
          obtain ⟨g, rfl, hgc, hgm⟩ := HGA.out h0D
          have hgm2 : gc ≤ 9223372036854775807 := by unfold maxLen at hgm; omega
          have HLt : Hid (ni < D.length) := hlt
          go_wp2_with fail
          refine (next_any C D.length _ ((HS60.out).codes 0 rfl) (by have := HDl.out; omega)).mono ?_
          rintro e w15 ⟨kn, rfl, k0, k1, hb, hc⟩
          have HS16 : Hid (Hp w [.cd C, .ob B2 27 (pgCells p), .ob B1 27 (pgCells q), .sl (.slice (some ⟨g, 0, none⟩) D.length gc) 29 6 (D.length) (D.flatMap chCells), .ob B5 27 (pgCells (pgWith p r))] w15) := (HS60.out).draws 0 rfl hb hc
          clear hb hc
          clear HS60
          obtain ⟨k, rfl⟩ := Int.eq_ofNat_of_zero_le k0
          have hkD : k < D.length := by omega
          clear k0 k1
          go_wp2_with fail
          go_loopw [20, 21] (fun sk sn wr => ∃ (n k2 : Nat), n ≤ D.length ∧ k2 < D.length ∧ k2 = (k + n) % D.length ∧ sk = .int .i64 k2 ∧ sn = .int .i64 n ∧ (∀ m, m < n → ∀ c, D[(k + m) % D.length]? = some c → Done r c) ∧ Hp w [.cd C, .ob B2 27 (pgCells p), .ob B1 27 (pgCells q), .sl (.slice (some ⟨g, 0, none⟩) D.length gc) 29 6 (D.length) (D.flatMap chCells), .ob B5 27 (pgCells (pgWith p r))] wr) (fun _ sn _ => D.length - (intOf sn).toNat)
          case atStart => exact ⟨0, k, by omega, hkD, by rw [Nat.add_zero, Nat.mod_eq_of_lt hkD], rfl, rfl, fun m hm => by omega, HS16.out⟩
          case round =>
            obtain ⟨n, k2, hn, hk2, hkn, rfl, rfl, hdone, hs⟩ := hrel
            clear HS16
            have hnD : n < D.length := by
              rcases Nat.lt_or_ge n D.length with h | h
              · exact h
              · exact (HDn.out r ni HRo.out HLt.out (fun k' c hc => round_all (P := fun k' => ∀ c, D[k']? = some c → Done r c) hkD (fun m hm c hc => hdone m (by omega) c hc) k' (List.getElem?_eq_some_iff.1 hc).1 c hc)).elim
            obtain ⟨c, hc⟩ : ∃ c, D[k2]? = some c := ⟨_, List.getElem?_eq_getElem hk2⟩
            obtain ⟨s, hs16, hsl⟩ := HDs.out k2 c hc
            have HC := Lib.hid hc
            have HSl := Lib.hid hsl
            have HDone := Lib.hid hdone
            have HKn := Lib.hid hkn
            have HY := Lib.hid hs
            have HCg := Lib.hid (HDg.out c (List.mem_of_getElem? hc))
            clear hs hc hdone hsl hkn hn
            have hk20 : (0 : Int) ≤ (k2 : Int) := by omega
            have hk2i : (k2 : Int) < (D.length : Int) := by omega
            have hs0 : (0 : Int) ≤ (s : Int) := by omega
            have hsi : (s : Int) < 16 := by omega
            have hni2 : (n : Int) < (D.length : Int) := by omega
            have hdt : decide ((n : Int) < (D.length : Int)) = true := by simp; omega
            obtain ⟨rx, hrx⟩ : ∃ x, r[s]? = some x := ⟨_, List.getElem?_eq_getElem (by have := HRg.out.len; show s < (pgWith p r).cells.length; omega)⟩
            have HDo : Hid (Done r c ↔ rx = c.after) := by
              show _ ↔ _
              unfold Done
              rw [HSl.out, show ((s : Int)).toNat = s from by omega, List.getD_eq_getElem?_getD, hrx]
              rfl
            have HM : Hid (∀ j u, (clCells rx)[j]? = some u → (pgCells (pgWith p r))[2 + s * 2 + j]? = some u) := pg_mid (pgWith p r) s hrx
            have HRs : Hid (rx.data.size ≤ maxLen) := HRg.out.data rx (List.mem_of_getElem? hrx)
            have heq : ∀ W, Sem.run Try.prog (binOp .eql 24 (.agg (clCells rx).toArray) (.agg (clCells c.after).toArray)) W = .ok (.bool (sameV rx c.after)) W := fun W => run_eql (equal_cl rx c.after HRs.out HCg.out.after) W
            clear hrx
            cases hsv : sameV rx c.after
            all_goals rw [hsv] at heq
            case true =>
              have HDn2 : Hid (Done r c) := HDo.out.2 (sameV_iff.1 hsv)
              clear hsv
              go_upto_region 20 with (fail)
              have HRow := Lib.hid (chRow_at (chRow_own (HY.out.own 3 rfl) rfl) HC.out)
              have HF1 : Hid (wr.drew.cell? ⟨g, k2 * 6 + 1, none⟩ = some (.int .i64 (s : Int))) := by rw [← HSl.out]; exact HRow.out 1 _ rfl
              have HF2 : Hid (wr.drew.rangeAt g (k2 * 6 + 4) (clCells c.after)) := fun j u hu => by rw [Nat.add_assoc]; exact HRow.out (4 + j) u (ch_after c j u hu)
              have HF3 : Hid (wr.drew.rangeAt B5 (2 + s * 2) (clCells rx)) := HY.out.drew.mid 4 rfl (2 + s * 2) (clCells rx) HM.out
              refine wp_region_held_drew (S := fun w' => w'.cell? ⟨g, k2 * 6 + 1, none⟩ = some (.int .i64 (s : Int)) ∧ w'.rangeAt g (k2 * 6 + 4) (clCells c.after) ∧ w'.rangeAt B5 (2 + s * 2) (clCells rx)) (by kernel_rfl) (⟨HF1.out, HF2.out, HF3.out⟩) (fun hHeld => ?_)
              refine wpAnyH_take (i := 0) (oi := { dst := some 97, op := Op.move (Operand.tmp 21), type := 3, pos := "law.go:66", after := #[], guard := none }) (v := ?q17v) rfl (by kernel_rfl) (by kernel_rfl) (by kernel_rfl) (fun _ _ _ h => h) (Or.inl ⟨by rfl, ?q17h⟩) hHeld ?q17r
              case q17h => (intro wq hSw; clear hSw; go_simp; try with_reducible rfl)
              try simp only [Act.put, List.setIfInBounds_toArray, List.set_cons_zero, List.set_cons_succ]
              refine wpAnyH_take (i := 1) (oi := { dst := some 98, op := Op.move (Operand.tmp 16), type := 51, pos := "law.go:66", after := #[], guard := none }) (v := ?q18v) rfl (by kernel_rfl) (by kernel_rfl) (by kernel_rfl) (fun _ _ _ h => h) (Or.inl ⟨by rfl, ?q18h⟩) hHeld ?q18r
              case q18h => (intro wq hSw; clear hSw; go_simp; try with_reducible rfl)
              try simp only [Act.put, List.setIfInBounds_toArray, List.set_cons_zero, List.set_cons_succ]
              refine wpAnyH_take (i := 2) (oi := { dst := some 99, op := Op.call { callee := Callee.builtin Builtin.len, args := #[Operand.tmp 98], argTypes := #[51] }, type := 3, pos := "law.go:66", after := #[{ on := 1, ground := Ground.data }], guard := none }) (v := ?q19v) rfl (by kernel_rfl) (by kernel_rfl) (by kernel_rfl) (fun _ _ _ h => h) (Or.inl ⟨by rfl, ?q19h⟩) hHeld ?q19r
              case q19h => (intro wq hSw; clear hSw; go_simp; try with_reducible rfl)
              try simp only [Act.put, List.setIfInBounds_toArray, List.set_cons_zero, List.set_cons_succ]
              refine wpAnyH_take (i := 3) (oi := { dst := some 100, op := Op.binOp BinOp.lss 3 (Operand.tmp 97) (Operand.tmp 99) 3, type := 4, pos := "law.go:66", after := #[{ on := 0, ground := Ground.data }, { on := 2, ground := Ground.data }], guard := none }) (v := ?q20v) rfl (by kernel_rfl) (by kernel_rfl) (by kernel_rfl) (fun _ _ _ h => h) (Or.inl ⟨by rfl, ?q20h⟩) hHeld ?q20r
              case q20h => (intro wq hSw; clear hSw; go_simp; try with_reducible rfl)
              try simp only [Act.put, List.setIfInBounds_toArray, List.set_cons_zero, List.set_cons_succ]
              refine wpAnyH_take (i := 4) (oi := { dst := some 101, op := Op.move (Operand.tmp 100), type := 4, pos := "law.go:66", after := #[{ on := 3, ground := Ground.data }], guard := none }) (v := ?q21v) rfl (by kernel_rfl) (by kernel_rfl) (by kernel_rfl) (fun _ _ _ h => h) (Or.inl ⟨by rfl, ?q21h⟩) hHeld ?q21r
              case q21h => (intro wq hSw; clear hSw; go_simp; try with_reducible rfl)
              try simp only [Act.put, List.setIfInBounds_toArray, List.set_cons_zero, List.set_cons_succ]
              refine wpAnyH_take (i := 5) (oi := { dst := some 102, op := Op.move (Operand.tmp 16), type := 51, pos := "law.go:66", after := #[{ on := 4, ground := Ground.guard }], guard := some (4, true) }) (v := ?q22v) rfl (by kernel_rfl) (by kernel_rfl) (by kernel_rfl) (fun _ _ _ h => h) (Or.inl ⟨by rfl, ?q22h⟩) hHeld ?q22r
              case q22h => (intro wq hSw; clear hSw; go_simp; try with_reducible rfl)
              try simp only [Act.put, List.setIfInBounds_toArray, List.set_cons_zero, List.set_cons_succ]
              refine wpAnyH_take (i := 6) (oi := { dst := some 103, op := Op.move (Operand.tmp 20), type := 3, pos := "law.go:66", after := #[{ on := 4, ground := Ground.guard }], guard := some (4, true) }) (v := ?q23v) rfl (by kernel_rfl) (by kernel_rfl) (by kernel_rfl) (fun _ _ _ h => h) (Or.inl ⟨by rfl, ?q23h⟩) hHeld ?q23r
              case q23h => (intro wq hSw; clear hSw; go_simp; try with_reducible rfl)
              try simp only [Act.put, List.setIfInBounds_toArray, List.set_cons_zero, List.set_cons_succ]
              refine wpAnyH_take (i := 7) (oi := { dst := some 104, op := Op.indexAddr 51 (Operand.tmp 102) (Operand.tmp 103), type := 0, pos := "law.go:66", after := #[{ on := 5, ground := Ground.data }, { on := 6, ground := Ground.data }, { on := 4, ground := Ground.guard }], guard := some (4, true) }) (v := ?q24v) rfl (by kernel_rfl) (by kernel_rfl) (by kernel_rfl) (fun _ _ _ h => h) (Or.inl ⟨by rfl, ?q24h⟩) hHeld ?q24r
              case q24h => (intro wq hSw; clear hSw; go_simp; try with_reducible rfl)
              try simp only [Act.put, List.setIfInBounds_toArray, List.set_cons_zero, List.set_cons_succ]
              refine wpAnyH_take (i := 8) (oi := { dst := some 105, op := Op.fieldAddr 29 (Operand.tmp 104) 1, type := 0, pos := "law.go:66", after := #[{ on := 7, ground := Ground.data }, { on := 4, ground := Ground.guard }], guard := some (4, true) }) (v := ?q25v) rfl (by kernel_rfl) (by kernel_rfl) (by kernel_rfl) (fun _ _ _ h => h) (Or.inl ⟨by rfl, ?q25h⟩) hHeld ?q25r
              case q25h => (intro wq hSw; clear hSw; go_simp; try with_reducible rfl)
              try simp only [Act.put, List.setIfInBounds_toArray, List.set_cons_zero, List.set_cons_succ]
              refine wpAnyH_take (i := 9) (oi := { dst := some 106, op := Op.load 3 (Operand.tmp 105), type := 3, pos := "law.go:66", after := #[{ on := 8, ground := Ground.data }, { on := 4, ground := Ground.guard }], guard := some (4, true) }) (v := ?q26v) rfl (by kernel_rfl) (by kernel_rfl) (by kernel_rfl) (fun _ _ _ h => h) (Or.inl ⟨by rfl, ?q26h⟩) hHeld ?q26r
              case q26h => (intro wq hSw; have q0 := hSw.1; clear hSw; go_simp; try with_reducible rfl)
              try simp only [Act.put, List.setIfInBounds_toArray, List.set_cons_zero, List.set_cons_succ]
              refine wpAnyH_take (i := 10) (oi := { dst := some 107, op := Op.fieldAddr 27 (Operand.tmp 18) 2, type := 0, pos := "law.go:66", after := #[{ on := 4, ground := Ground.guard }], guard := some (4, true) }) (v := ?q27v) rfl (by kernel_rfl) (by kernel_rfl) (by kernel_rfl) (fun _ _ _ h => h) (Or.inl ⟨by rfl, ?q27h⟩) hHeld ?q27r
              case q27h => (intro wq hSw; clear hSw; go_simp; try with_reducible rfl)
              try simp only [Act.put, List.setIfInBounds_toArray, List.set_cons_zero, List.set_cons_succ]
              refine wpAnyH_take (i := 11) (oi := { dst := some 108, op := Op.indexAddr 25 (Operand.tmp 107) (Operand.tmp 106), type := 0, pos := "law.go:66", after := #[{ on := 10, ground := Ground.data }, { on := 9, ground := Ground.data }, { on := 4, ground := Ground.guard }], guard := some (4, true) }) (v := ?q28v) rfl (by kernel_rfl) (by kernel_rfl) (by kernel_rfl) (fun _ _ _ h => h) (Or.inl ⟨by rfl, ?q28h⟩) hHeld ?q28r
              case q28h => (intro wq hSw; clear hSw; go_simp; try with_reducible rfl)
              try simp only [Act.put, List.setIfInBounds_toArray, List.set_cons_zero, List.set_cons_succ]
              refine wpAnyH_take (i := 12) (oi := { dst := some 109, op := Op.load 24 (Operand.tmp 108), type := 24, pos := "law.go:66", after := #[{ on := 11, ground := Ground.data }, { on := 4, ground := Ground.guard }], guard := some (4, true) }) rfl (by kernel_rfl) (by kernel_rfl) (by kernel_rfl) (fun _ _ _ h => h) (yieldsIf_load_mid (by rfl) 24 (.tmp 108) rfl B5 (2 + s * 2) rfl (clCells rx) _ (fun _ h => h.2.2) HUC.out rfl (info_cl)) hHeld ?_
              try simp only [Act.put, List.setIfInBounds_toArray, List.set_cons_zero, List.set_cons_succ]
              refine wpAnyH_take (i := 13) (oi := { dst := some 110, op := Op.move (Operand.tmp 16), type := 51, pos := "law.go:66", after := #[{ on := 4, ground := Ground.guard }], guard := some (4, true) }) (v := ?q30v) rfl (by kernel_rfl) (by kernel_rfl) (by kernel_rfl) (fun _ _ _ h => h) (Or.inl ⟨by rfl, ?q30h⟩) hHeld ?q30r
              case q30h => (intro wq hSw; clear hSw; go_simp; try with_reducible rfl)
              try simp only [Act.put, List.setIfInBounds_toArray, List.set_cons_zero, List.set_cons_succ]
              refine wpAnyH_take (i := 14) (oi := { dst := some 111, op := Op.move (Operand.tmp 20), type := 3, pos := "law.go:66", after := #[{ on := 4, ground := Ground.guard }], guard := some (4, true) }) (v := ?q31v) rfl (by kernel_rfl) (by kernel_rfl) (by kernel_rfl) (fun _ _ _ h => h) (Or.inl ⟨by rfl, ?q31h⟩) hHeld ?q31r
              case q31h => (intro wq hSw; clear hSw; go_simp; try with_reducible rfl)
              try simp only [Act.put, List.setIfInBounds_toArray, List.set_cons_zero, List.set_cons_succ]
              refine wpAnyH_take (i := 15) (oi := { dst := some 112, op := Op.indexAddr 51 (Operand.tmp 110) (Operand.tmp 111), type := 0, pos := "law.go:66", after := #[{ on := 13, ground := Ground.data }, { on := 14, ground := Ground.data }, { on := 4, ground := Ground.guard }], guard := some (4, true) }) (v := ?q32v) rfl (by kernel_rfl) (by kernel_rfl) (by kernel_rfl) (fun _ _ _ h => h) (Or.inl ⟨by rfl, ?q32h⟩) hHeld ?q32r
              case q32h => (intro wq hSw; clear hSw; go_simp; try with_reducible rfl)
              try simp only [Act.put, List.setIfInBounds_toArray, List.set_cons_zero, List.set_cons_succ]
              refine wpAnyH_take (i := 16) (oi := { dst := some 113, op := Op.fieldAddr 29 (Operand.tmp 112) 3, type := 0, pos := "law.go:66", after := #[{ on := 15, ground := Ground.data }, { on := 4, ground := Ground.guard }], guard := some (4, true) }) (v := ?q33v) rfl (by kernel_rfl) (by kernel_rfl) (by kernel_rfl) (fun _ _ _ h => h) (Or.inl ⟨by rfl, ?q33h⟩) hHeld ?q33r
              case q33h => (intro wq hSw; clear hSw; go_simp; try with_reducible rfl)
              try simp only [Act.put, List.setIfInBounds_toArray, List.set_cons_zero, List.set_cons_succ]
              refine wpAnyH_take (i := 17) (oi := { dst := some 114, op := Op.load 24 (Operand.tmp 113), type := 24, pos := "law.go:66", after := #[{ on := 16, ground := Ground.data }, { on := 4, ground := Ground.guard }], guard := some (4, true) }) rfl (by kernel_rfl) (by kernel_rfl) (by kernel_rfl) (fun _ _ _ h => h) (yieldsIf_load_mid (by rfl) 24 (.tmp 113) rfl g (k2 * 6 + 4) rfl (clCells c.after) _ (fun _ h => h.2.1) HUC.out rfl (info_cl)) hHeld ?_
              try simp only [Act.put, List.setIfInBounds_toArray, List.set_cons_zero, List.set_cons_succ]
              refine wpAnyH_take (i := 18) (oi := { dst := some 115, op := Op.binOp BinOp.eql 24 (Operand.tmp 109) (Operand.tmp 114) 24, type := 4, pos := "law.go:66", after := #[{ on := 12, ground := Ground.data }, { on := 17, ground := Ground.data }, { on := 4, ground := Ground.guard }], guard := some (4, true) }) (v := ?q35v) rfl (by kernel_rfl) (by kernel_rfl) (by kernel_rfl) (fun _ _ _ h => h) (Or.inl ⟨by rfl, ?q35h⟩) hHeld ?q35r
              case q35h => (intro wq hSw; clear hSw; go_simp; try with_reducible rfl)
              try simp only [Act.put, List.setIfInBounds_toArray, List.set_cons_zero, List.set_cons_succ]
              refine wpAnyH_take (i := 19) (oi := { dst := some 116, op := Op.pick (Operand.tmp 101) (Operand.tmp 115) (Operand.const (Value.bool false)), type := 4, pos := "law.go:66", after := #[{ on := 4, ground := Ground.data }, { on := 18, ground := Ground.data }], guard := none }) (v := ?q36v) rfl (by kernel_rfl) (by kernel_rfl) (by kernel_rfl) (fun _ _ _ h => h) (Or.inl ⟨by rfl, ?q36h⟩) hHeld ?q36r
              case q36h => (intro wq hSw; clear hSw; go_simp; try with_reducible rfl)
              try simp only [Act.put, List.setIfInBounds_toArray, List.set_cons_zero, List.set_cons_succ]
              refine wpAnyH_done (by kernel_rfl) ?_ _
              clear hHeld
              clear HRow HF1 HF2 HF3
              have HS17 : Hid (Hp w [.cd C, .ob B2 27 (pgCells p), .ob B1 27 (pgCells q), .sl (.slice (some ⟨g, 0, none⟩) D.length gc) 29 6 (D.length) (D.flatMap chCells), .ob B5 27 (pgCells (pgWith p r))] (wr.drew)) := (HY.out).drew
              clear HY
              generalize wr.drew = w16 at *
              have hdl2 : (D.length : Int) ≤ 16 := hdl
              have hmod : ((k2 : Int) + 1) % (D.length : Int) = (((k2 + 1) % D.length : Nat) : Int) := by rw [Int.natCast_emod, Int.natCast_add]; rfl
              have hne0 : (D.length : Int) ≠ 0 := by omega
              go_wp2_with fail
              go_roundw
              case rel => exact ⟨n + 1, (k2 + 1) % D.length, by omega, Nat.mod_lt _ (by omega), by rw [HKn.out, Nat.mod_add_mod, Nat.add_assoc], by first | rfl | (congr 1; omega), by go_num, fun m hm c' hc' => by
                rcases Nat.lt_or_ge m n with h | h
                · exact HDone.out m h c' hc'
                · obtain rfl : m = n := by omega
                  rw [← HKn.out, HC.out] at hc'
                  rw [← Option.some.inj hc']
                  exact HDn2.out, HS17.out⟩
              case measure => simp [intOf]; omega
            case false =>
              have HDn2 : Hid (¬ Done r c) := fun h => by
                have := HDo.out.1 h
                rw [this, sameV_self] at hsv
                cases hsv
              clear hsv
              go_upto_region 20 with (fail)
              have HRow := Lib.hid (chRow_at (chRow_own (HY.out.own 3 rfl) rfl) HC.out)
              have HF1 : Hid (wr.drew.cell? ⟨g, k2 * 6 + 1, none⟩ = some (.int .i64 (s : Int))) := by rw [← HSl.out]; exact HRow.out 1 _ rfl
              have HF2 : Hid (wr.drew.rangeAt g (k2 * 6 + 4) (clCells c.after)) := fun j u hu => by rw [Nat.add_assoc]; exact HRow.out (4 + j) u (ch_after c j u hu)
              have HF3 : Hid (wr.drew.rangeAt B5 (2 + s * 2) (clCells rx)) := HY.out.drew.mid 4 rfl (2 + s * 2) (clCells rx) HM.out
              refine wp_region_held_drew (S := fun w' => w'.cell? ⟨g, k2 * 6 + 1, none⟩ = some (.int .i64 (s : Int)) ∧ w'.rangeAt g (k2 * 6 + 4) (clCells c.after) ∧ w'.rangeAt B5 (2 + s * 2) (clCells rx)) (by kernel_rfl) (⟨HF1.out, HF2.out, HF3.out⟩) (fun hHeld => ?_)
              refine wpAnyH_take (i := 0) (oi := { dst := some 97, op := Op.move (Operand.tmp 21), type := 3, pos := "law.go:66", after := #[], guard := none }) (v := ?q37v) rfl (by kernel_rfl) (by kernel_rfl) (by kernel_rfl) (fun _ _ _ h => h) (Or.inl ⟨by rfl, ?q37h⟩) hHeld ?q37r
              case q37h => (intro wq hSw; clear hSw; go_simp; try with_reducible rfl)
              try simp only [Act.put, List.setIfInBounds_toArray, List.set_cons_zero, List.set_cons_succ]
              refine wpAnyH_take (i := 1) (oi := { dst := some 98, op := Op.move (Operand.tmp 16), type := 51, pos := "law.go:66", after := #[], guard := none }) (v := ?q38v) rfl (by kernel_rfl) (by kernel_rfl) (by kernel_rfl) (fun _ _ _ h => h) (Or.inl ⟨by rfl, ?q38h⟩) hHeld ?q38r
              case q38h => (intro wq hSw; clear hSw; go_simp; try with_reducible rfl)
              try simp only [Act.put, List.setIfInBounds_toArray, List.set_cons_zero, List.set_cons_succ]
              refine wpAnyH_take (i := 2) (oi := { dst := some 99, op := Op.call { callee := Callee.builtin Builtin.len, args := #[Operand.tmp 98], argTypes := #[51] }, type := 3, pos := "law.go:66", after := #[{ on := 1, ground := Ground.data }], guard := none }) (v := ?q39v) rfl (by kernel_rfl) (by kernel_rfl) (by kernel_rfl) (fun _ _ _ h => h) (Or.inl ⟨by rfl, ?q39h⟩) hHeld ?q39r
              case q39h => (intro wq hSw; clear hSw; go_simp; try with_reducible rfl)
              try simp only [Act.put, List.setIfInBounds_toArray, List.set_cons_zero, List.set_cons_succ]
              refine wpAnyH_take (i := 3) (oi := { dst := some 100, op := Op.binOp BinOp.lss 3 (Operand.tmp 97) (Operand.tmp 99) 3, type := 4, pos := "law.go:66", after := #[{ on := 0, ground := Ground.data }, { on := 2, ground := Ground.data }], guard := none }) (v := ?q40v) rfl (by kernel_rfl) (by kernel_rfl) (by kernel_rfl) (fun _ _ _ h => h) (Or.inl ⟨by rfl, ?q40h⟩) hHeld ?q40r
              case q40h => (intro wq hSw; clear hSw; go_simp; try with_reducible rfl)
              try simp only [Act.put, List.setIfInBounds_toArray, List.set_cons_zero, List.set_cons_succ]
              refine wpAnyH_take (i := 4) (oi := { dst := some 101, op := Op.move (Operand.tmp 100), type := 4, pos := "law.go:66", after := #[{ on := 3, ground := Ground.data }], guard := none }) (v := ?q41v) rfl (by kernel_rfl) (by kernel_rfl) (by kernel_rfl) (fun _ _ _ h => h) (Or.inl ⟨by rfl, ?q41h⟩) hHeld ?q41r
              case q41h => (intro wq hSw; clear hSw; go_simp; try with_reducible rfl)
              try simp only [Act.put, List.setIfInBounds_toArray, List.set_cons_zero, List.set_cons_succ]
              refine wpAnyH_take (i := 5) (oi := { dst := some 102, op := Op.move (Operand.tmp 16), type := 51, pos := "law.go:66", after := #[{ on := 4, ground := Ground.guard }], guard := some (4, true) }) (v := ?q42v) rfl (by kernel_rfl) (by kernel_rfl) (by kernel_rfl) (fun _ _ _ h => h) (Or.inl ⟨by rfl, ?q42h⟩) hHeld ?q42r
              case q42h => (intro wq hSw; clear hSw; go_simp; try with_reducible rfl)
              try simp only [Act.put, List.setIfInBounds_toArray, List.set_cons_zero, List.set_cons_succ]
              refine wpAnyH_take (i := 6) (oi := { dst := some 103, op := Op.move (Operand.tmp 20), type := 3, pos := "law.go:66", after := #[{ on := 4, ground := Ground.guard }], guard := some (4, true) }) (v := ?q43v) rfl (by kernel_rfl) (by kernel_rfl) (by kernel_rfl) (fun _ _ _ h => h) (Or.inl ⟨by rfl, ?q43h⟩) hHeld ?q43r
              case q43h => (intro wq hSw; clear hSw; go_simp; try with_reducible rfl)
              try simp only [Act.put, List.setIfInBounds_toArray, List.set_cons_zero, List.set_cons_succ]
              refine wpAnyH_take (i := 7) (oi := { dst := some 104, op := Op.indexAddr 51 (Operand.tmp 102) (Operand.tmp 103), type := 0, pos := "law.go:66", after := #[{ on := 5, ground := Ground.data }, { on := 6, ground := Ground.data }, { on := 4, ground := Ground.guard }], guard := some (4, true) }) (v := ?q44v) rfl (by kernel_rfl) (by kernel_rfl) (by kernel_rfl) (fun _ _ _ h => h) (Or.inl ⟨by rfl, ?q44h⟩) hHeld ?q44r
              case q44h => (intro wq hSw; clear hSw; go_simp; try with_reducible rfl)
              try simp only [Act.put, List.setIfInBounds_toArray, List.set_cons_zero, List.set_cons_succ]
              refine wpAnyH_take (i := 8) (oi := { dst := some 105, op := Op.fieldAddr 29 (Operand.tmp 104) 1, type := 0, pos := "law.go:66", after := #[{ on := 7, ground := Ground.data }, { on := 4, ground := Ground.guard }], guard := some (4, true) }) (v := ?q45v) rfl (by kernel_rfl) (by kernel_rfl) (by kernel_rfl) (fun _ _ _ h => h) (Or.inl ⟨by rfl, ?q45h⟩) hHeld ?q45r
              case q45h => (intro wq hSw; clear hSw; go_simp; try with_reducible rfl)
              try simp only [Act.put, List.setIfInBounds_toArray, List.set_cons_zero, List.set_cons_succ]
              refine wpAnyH_take (i := 9) (oi := { dst := some 106, op := Op.load 3 (Operand.tmp 105), type := 3, pos := "law.go:66", after := #[{ on := 8, ground := Ground.data }, { on := 4, ground := Ground.guard }], guard := some (4, true) }) (v := ?q46v) rfl (by kernel_rfl) (by kernel_rfl) (by kernel_rfl) (fun _ _ _ h => h) (Or.inl ⟨by rfl, ?q46h⟩) hHeld ?q46r
              case q46h => (intro wq hSw; have q0 := hSw.1; clear hSw; go_simp; try with_reducible rfl)
              try simp only [Act.put, List.setIfInBounds_toArray, List.set_cons_zero, List.set_cons_succ]
              refine wpAnyH_take (i := 10) (oi := { dst := some 107, op := Op.fieldAddr 27 (Operand.tmp 18) 2, type := 0, pos := "law.go:66", after := #[{ on := 4, ground := Ground.guard }], guard := some (4, true) }) (v := ?q47v) rfl (by kernel_rfl) (by kernel_rfl) (by kernel_rfl) (fun _ _ _ h => h) (Or.inl ⟨by rfl, ?q47h⟩) hHeld ?q47r
              case q47h => (intro wq hSw; clear hSw; go_simp; try with_reducible rfl)
              try simp only [Act.put, List.setIfInBounds_toArray, List.set_cons_zero, List.set_cons_succ]
              refine wpAnyH_take (i := 11) (oi := { dst := some 108, op := Op.indexAddr 25 (Operand.tmp 107) (Operand.tmp 106), type := 0, pos := "law.go:66", after := #[{ on := 10, ground := Ground.data }, { on := 9, ground := Ground.data }, { on := 4, ground := Ground.guard }], guard := some (4, true) }) (v := ?q48v) rfl (by kernel_rfl) (by kernel_rfl) (by kernel_rfl) (fun _ _ _ h => h) (Or.inl ⟨by rfl, ?q48h⟩) hHeld ?q48r
              case q48h => (intro wq hSw; clear hSw; go_simp; try with_reducible rfl)
              try simp only [Act.put, List.setIfInBounds_toArray, List.set_cons_zero, List.set_cons_succ]
              refine wpAnyH_take (i := 12) (oi := { dst := some 109, op := Op.load 24 (Operand.tmp 108), type := 24, pos := "law.go:66", after := #[{ on := 11, ground := Ground.data }, { on := 4, ground := Ground.guard }], guard := some (4, true) }) rfl (by kernel_rfl) (by kernel_rfl) (by kernel_rfl) (fun _ _ _ h => h) (yieldsIf_load_mid (by rfl) 24 (.tmp 108) rfl B5 (2 + s * 2) rfl (clCells rx) _ (fun _ h => h.2.2) HUC.out rfl (info_cl)) hHeld ?_
              try simp only [Act.put, List.setIfInBounds_toArray, List.set_cons_zero, List.set_cons_succ]
              refine wpAnyH_take (i := 13) (oi := { dst := some 110, op := Op.move (Operand.tmp 16), type := 51, pos := "law.go:66", after := #[{ on := 4, ground := Ground.guard }], guard := some (4, true) }) (v := ?q50v) rfl (by kernel_rfl) (by kernel_rfl) (by kernel_rfl) (fun _ _ _ h => h) (Or.inl ⟨by rfl, ?q50h⟩) hHeld ?q50r
              case q50h => (intro wq hSw; clear hSw; go_simp; try with_reducible rfl)
              try simp only [Act.put, List.setIfInBounds_toArray, List.set_cons_zero, List.set_cons_succ]
              refine wpAnyH_take (i := 14) (oi := { dst := some 111, op := Op.move (Operand.tmp 20), type := 3, pos := "law.go:66", after := #[{ on := 4, ground := Ground.guard }], guard := some (4, true) }) (v := ?q51v) rfl (by kernel_rfl) (by kernel_rfl) (by kernel_rfl) (fun _ _ _ h => h) (Or.inl ⟨by rfl, ?q51h⟩) hHeld ?q51r
              case q51h => (intro wq hSw; clear hSw; go_simp; try with_reducible rfl)
              try simp only [Act.put, List.setIfInBounds_toArray, List.set_cons_zero, List.set_cons_succ]
              refine wpAnyH_take (i := 15) (oi := { dst := some 112, op := Op.indexAddr 51 (Operand.tmp 110) (Operand.tmp 111), type := 0, pos := "law.go:66", after := #[{ on := 13, ground := Ground.data }, { on := 14, ground := Ground.data }, { on := 4, ground := Ground.guard }], guard := some (4, true) }) (v := ?q52v) rfl (by kernel_rfl) (by kernel_rfl) (by kernel_rfl) (fun _ _ _ h => h) (Or.inl ⟨by rfl, ?q52h⟩) hHeld ?q52r
              case q52h => (intro wq hSw; clear hSw; go_simp; try with_reducible rfl)
              try simp only [Act.put, List.setIfInBounds_toArray, List.set_cons_zero, List.set_cons_succ]
              refine wpAnyH_take (i := 16) (oi := { dst := some 113, op := Op.fieldAddr 29 (Operand.tmp 112) 3, type := 0, pos := "law.go:66", after := #[{ on := 15, ground := Ground.data }, { on := 4, ground := Ground.guard }], guard := some (4, true) }) (v := ?q53v) rfl (by kernel_rfl) (by kernel_rfl) (by kernel_rfl) (fun _ _ _ h => h) (Or.inl ⟨by rfl, ?q53h⟩) hHeld ?q53r
              case q53h => (intro wq hSw; clear hSw; go_simp; try with_reducible rfl)
              try simp only [Act.put, List.setIfInBounds_toArray, List.set_cons_zero, List.set_cons_succ]
              refine wpAnyH_take (i := 17) (oi := { dst := some 114, op := Op.load 24 (Operand.tmp 113), type := 24, pos := "law.go:66", after := #[{ on := 16, ground := Ground.data }, { on := 4, ground := Ground.guard }], guard := some (4, true) }) rfl (by kernel_rfl) (by kernel_rfl) (by kernel_rfl) (fun _ _ _ h => h) (yieldsIf_load_mid (by rfl) 24 (.tmp 113) rfl g (k2 * 6 + 4) rfl (clCells c.after) _ (fun _ h => h.2.1) HUC.out rfl (info_cl)) hHeld ?_
              try simp only [Act.put, List.setIfInBounds_toArray, List.set_cons_zero, List.set_cons_succ]
              refine wpAnyH_take (i := 18) (oi := { dst := some 115, op := Op.binOp BinOp.eql 24 (Operand.tmp 109) (Operand.tmp 114) 24, type := 4, pos := "law.go:66", after := #[{ on := 12, ground := Ground.data }, { on := 17, ground := Ground.data }, { on := 4, ground := Ground.guard }], guard := some (4, true) }) (v := ?q55v) rfl (by kernel_rfl) (by kernel_rfl) (by kernel_rfl) (fun _ _ _ h => h) (Or.inl ⟨by rfl, ?q55h⟩) hHeld ?q55r
              case q55h => (intro wq hSw; clear hSw; go_simp; try with_reducible rfl)
              try simp only [Act.put, List.setIfInBounds_toArray, List.set_cons_zero, List.set_cons_succ]
              refine wpAnyH_take (i := 19) (oi := { dst := some 116, op := Op.pick (Operand.tmp 101) (Operand.tmp 115) (Operand.const (Value.bool false)), type := 4, pos := "law.go:66", after := #[{ on := 4, ground := Ground.data }, { on := 18, ground := Ground.data }], guard := none }) (v := ?q56v) rfl (by kernel_rfl) (by kernel_rfl) (by kernel_rfl) (fun _ _ _ h => h) (Or.inl ⟨by rfl, ?q56h⟩) hHeld ?q56r
              case q56h => (intro wq hSw; clear hSw; go_simp; try with_reducible rfl)
              try simp only [Act.put, List.setIfInBounds_toArray, List.set_cons_zero, List.set_cons_succ]
              refine wpAnyH_done (by kernel_rfl) ?_ _
              clear hHeld
              clear HRow HF1 HF2 HF3
              have HS17 : Hid (Hp w [.cd C, .ob B2 27 (pgCells p), .ob B1 27 (pgCells q), .sl (.slice (some ⟨g, 0, none⟩) D.length gc) 29 6 (D.length) (D.flatMap chCells), .ob B5 27 (pgCells (pgWith p r))] (wr.drew)) := (HY.out).drew
              clear HY
              generalize wr.drew = w16 at *
              obtain ⟨_, s2, hs2, hap, hro2⟩ := HDx.out r ni k2 c HRo.out HC.out HDn2.out
              have HAp := Lib.hid hap
              have HRo2 := Lib.hid hro2
              clear hap hro2 hs2
              generalize r.set s2 c.after = r2 at *
              have HR2g := Lib.hid (HRo2.out.good HGp.out HGq.out)
              go_upto_region 23 with (fail)
              have HRow := Lib.hid (chRow_at (chRow_own (HS17.out.own 3 rfl) rfl) HC.out)
              have HF1 : Hid (w16.drew.rangeAt g (k2 * 6) (chCells c)) := HRow.out
              have HF2 : Hid (w16.drew.rangeAt B5 0 (pgCells (pgWith p r))) := fun j u hu => by rw [Nat.zero_add]; exact HS17.out.drew.at 4 rfl j hu
              go_cut [22, 23] (fun s22 s23 wx => ∃ bq0, s22 = .pointer (some ⟨bq0, 0, none⟩) ∧ s23 = .int .i64 0 ∧ Hp w [.cd C, .ob B2 27 (pgCells p), .ob B1 27 (pgCells q), .sl (.slice (some ⟨g, 0, none⟩) D.length gc) 29 6 (D.length) (D.flatMap chCells), .ob B5 27 (pgCells (pgWith p r)), .ob bq0 27 (pgCells (pgWith p r2))] wx)
              case first =>
                refine wp_region_held_drew (S := fun w' => w'.rangeAt g (k2 * 6) (chCells c) ∧ w'.rangeAt B5 0 (pgCells (pgWith p r))) (by kernel_rfl) (⟨HF1.out, HF2.out⟩) (fun hHeld => ?_)
                refine wpAnyH_take (i := 0) (oi := { dst := some 125, op := Op.load 27 (Operand.tmp 18), type := 27, pos := "law.go:69", after := #[], guard := none }) rfl (by kernel_rfl) (by kernel_rfl) (by kernel_rfl) (fun _ _ _ h => h) (yieldsIf_load_mid (by rfl) 27 (.tmp 18) rfl B5 (0) rfl (pgCells (pgWith p r)) _ (fun _ h => h.2) HUP.out rfl ((info_pgc HRg.out.len))) hHeld ?_
                try simp only [Act.put, List.setIfInBounds_toArray, List.set_cons_zero, List.set_cons_succ]
                refine wpAnyH_take (i := 1) (oi := { dst := some 126, op := Op.move (Operand.tmp 16), type := 51, pos := "law.go:69", after := #[], guard := none }) (v := ?q58v) rfl (by kernel_rfl) (by kernel_rfl) (by kernel_rfl) (fun _ _ _ h => h) (Or.inl ⟨by rfl, ?q58h⟩) hHeld ?q58r
                case q58h => (intro wq hSw; clear hSw; go_simp; try with_reducible rfl)
                try simp only [Act.put, List.setIfInBounds_toArray, List.set_cons_zero, List.set_cons_succ]
                refine wpAnyH_take (i := 2) (oi := { dst := some 127, op := Op.move (Operand.tmp 20), type := 3, pos := "law.go:69", after := #[], guard := none }) (v := ?q59v) rfl (by kernel_rfl) (by kernel_rfl) (by kernel_rfl) (fun _ _ _ h => h) (Or.inl ⟨by rfl, ?q59h⟩) hHeld ?q59r
                case q59h => (intro wq hSw; clear hSw; go_simp; try with_reducible rfl)
                try simp only [Act.put, List.setIfInBounds_toArray, List.set_cons_zero, List.set_cons_succ]
                refine wpAnyH_take (i := 3) (oi := { dst := some 128, op := Op.indexAddr 51 (Operand.tmp 126) (Operand.tmp 127), type := 0, pos := "law.go:69", after := #[{ on := 1, ground := Ground.data }, { on := 2, ground := Ground.data }], guard := none }) (v := ?q60v) rfl (by kernel_rfl) (by kernel_rfl) (by kernel_rfl) (fun _ _ _ h => h) (Or.inl ⟨by rfl, ?q60h⟩) hHeld ?q60r
                case q60h => (intro wq hSw; clear hSw; go_simp; try with_reducible rfl)
                try simp only [Act.put, List.setIfInBounds_toArray, List.set_cons_zero, List.set_cons_succ]
                refine wpAnyH_take (i := 4) (oi := { dst := some 129, op := Op.load 29 (Operand.tmp 128), type := 29, pos := "law.go:69", after := #[{ on := 3, ground := Ground.data }], guard := none }) rfl (by kernel_rfl) (by kernel_rfl) (by kernel_rfl) (fun _ _ _ h => h) (yieldsIf_load_mid (by rfl) 29 (.tmp 128) rfl g (k2 * 6) rfl (chCells c) _ (fun _ h => h.1) HU.out rfl (info_ch)) hHeld ?_
                try simp only [Act.put, List.setIfInBounds_toArray, List.set_cons_zero, List.set_cons_succ]
                refine wpAnyH_ready (rs := [5, 9]) (by kernel_rfl) (by simp) ?_
                refine AllReadyH.cons (o := { dst := some 130, op := Op.call { callee := Callee.value (Operand.func 22), args := #[Operand.tmp 125, Operand.tmp 129], argTypes := #[27, 29] }, type := 46, pos := "law.go:69", after := #[{ on := 0, ground := Ground.data }, { on := 4, ground := Ground.data }], guard := none }) rfl (fun K hK => ?_) (AllReadyH.cons (o := { dst := some 22, op := Op.alloc 27, type := 0, pos := "law.go:69", after := #[], guard := none }) rfl (fun K hK => ?_) (AllReadyH.nil))
                · go_simp
                  go_wp2_with (go_at_call 22; refine (apply_at HAp.out HRg.out HCg.out _).mono ?_; rintro e w17 ⟨rfl, hb⟩)
                  have HS18 : Hid (Hp w [.cd C, .ob B2 27 (pgCells p), .ob B1 27 (pgCells q), .sl (.slice (some ⟨g, 0, none⟩) D.length gc) 29 6 (D.length) (D.flatMap chCells), .ob B5 27 (pgCells (pgWith p r))] w17) := ((HS17.out).drew).calls hb
                  refine hK.out _ _ (⟨chRow_at (chRow_own (HS18.out.own 3 rfl) rfl) HC.out, fun j u hu => by rw [Nat.zero_add]; exact HS18.out.at 4 rfl j hu⟩) (fun hHeld => ?_)
                  clear hK K hb
                  try simp only [Act.put, List.setIfInBounds_toArray, List.set_cons_zero, List.set_cons_succ]
                  refine wpAnyH_take (i := 6) (oi := { dst := some 124, op := Op.move (Operand.tmp 130), type := 46, pos := "law.go:69", after := #[{ on := 5, ground := Ground.data }], guard := none }) (v := ?q62v) rfl (by kernel_rfl) (by kernel_rfl) (by kernel_rfl) (fun _ _ _ h => h) (Or.inl ⟨by rfl, ?q62h⟩) hHeld ?q62r
                  case q62h => (intro wq hSw; clear hSw; go_simp; try with_reducible rfl)
                  try simp only [Act.put, List.setIfInBounds_toArray, List.set_cons_zero, List.set_cons_succ]
                  refine wpAnyH_take (i := 7) (oi := { dst := some 131, op := Op.extract (Operand.tmp 124) 0, type := 27, pos := "law.go:69", after := #[{ on := 6, ground := Ground.data }], guard := none }) (v := ?q63v) rfl (by kernel_rfl) (by kernel_rfl) (by kernel_rfl) (fun _ _ _ h => h) (Or.inl ⟨by rfl, ?q63h⟩) hHeld ?q63r
                  case q63h => (intro wq hSw; clear hSw; go_simp; try with_reducible rfl)
                  try simp only [Act.put, List.setIfInBounds_toArray, List.set_cons_zero, List.set_cons_succ]
                  refine wpAnyH_take (i := 8) (oi := { dst := some 132, op := Op.extract (Operand.tmp 124) 1, type := 39, pos := "law.go:69", after := #[{ on := 6, ground := Ground.data }, { on := 10, ground := Ground.gcOnly Departure.lateStores }], guard := none }) (v := ?q64v) rfl (by kernel_rfl) (by kernel_rfl) (by kernel_rfl) (fun _ _ _ h => h) (Or.inl ⟨by rfl, ?q64h⟩) hHeld ?q64r
                  case q64h => (intro wq hSw; clear hSw; go_simp; try with_reducible rfl)
                  try simp only [Act.put, List.setIfInBounds_toArray, List.set_cons_zero, List.set_cons_succ]
                  refine wpAnyH_ready (rs := [9]) (by kernel_rfl) (by simp) ?_
                  refine AllReadyH.cons (o := { dst := some 22, op := Op.alloc 27, type := 0, pos := "law.go:69", after := #[], guard := none }) rfl (fun K hK => ?_) (AllReadyH.nil)
                  rw [if_pos (by rfl)]
                  refine wp_alloc_ob 27 (pgCells (newPg 0)) rfl alloc_page ?_
                  have HS19 : Hid (Hp w [.cd C, .ob B2 27 (pgCells p), .ob B1 27 (pgCells q), .sl (.slice (some ⟨g, 0, none⟩) D.length gc) 29 6 (D.length) (D.flatMap chCells), .ob B5 27 (pgCells (pgWith p r)), .ob (w17.heap.size) 27 (pgCells (newPg 0))] (w17.alloc (.cells (pgCells (newPg 0)).toArray 27))) := (HS18.out).put 27 (pgCells (newPg 0))
                  refine hK.out _ _ (⟨chRow_at (chRow_own (HS19.out.own 3 rfl) rfl) HC.out, fun j u hu => by rw [Nat.zero_add]; exact HS19.out.at 4 rfl j hu⟩) (fun hHeld => ?_)
                  clear hK K
                  generalize (w17.alloc (.cells (pgCells (newPg 0)).toArray 27)) = w18 at *
                  generalize w17.heap.size = B6 at *
                  try simp only [Act.put, List.setIfInBounds_toArray, List.set_cons_zero, List.set_cons_succ]
                  refine wpAnyH_ready (rs := [10]) (by kernel_rfl) (by simp) ?_
                  refine AllReadyH.cons (o := { dst := none, op := Op.store 27 (Operand.tmp 22) (Operand.tmp 131), type := 0, pos := "law.go:69", after := #[{ on := 9, ground := Ground.data }, { on := 7, ground := Ground.data }, { on := 5, ground := Ground.chain }, { on := 0, ground := Ground.phase }, { on := 1, ground := Ground.phase }, { on := 2, ground := Ground.phase }, { on := 3, ground := Ground.phase }, { on := 4, ground := Ground.phase }, { on := 5, ground := Ground.phase }, { on := 6, ground := Ground.phase }, { on := 7, ground := Ground.phase }, { on := 8, ground := Ground.textOnly Departure.lateStores }, { on := 9, ground := Ground.phase }], guard := none }) rfl (fun K hK => ?_) (AllReadyH.nil)
                  rw [if_pos (by rfl)]
                  refine wp_store_ob 27 (.tmp 22) (.tmp 131) B6 (pgCells (pgWith p r2)) (pgCells (newPg 0)) 27 rfl rfl rfl rfl ((HS19.out).get 5 rfl) ((info_pgc HR2g.out.len)) ((by rw [pgCells_len HR2g.out.len, pgCells_len (p := (newPg 0)) rfl])) ((oneCell_pg _)) ?_
                  have HS20 : Hid (Hp w [.cd C, .ob B2 27 (pgCells p), .ob B1 27 (pgCells q), .sl (.slice (some ⟨g, 0, none⟩) D.length gc) 29 6 (D.length) (D.flatMap chCells), .ob B5 27 (pgCells (pgWith p r)), .ob B6 27 (pgCells (pgWith p r2))] (w18.setRow B6 (pgCells (pgWith p r2)).toArray)) := (HS19.out).row 5 rfl (pgCells (pgWith p r2))
                  refine hK.out _ _ (⟨chRow_at (chRow_own (HS20.out.own 3 rfl) rfl) HC.out, fun j u hu => by rw [Nat.zero_add]; exact HS20.out.at 4 rfl j hu⟩) (fun hHeld => ?_)
                  clear hK K
                  generalize (w18.setRow B6 (pgCells (pgWith p r2)).toArray) = w19 at *
                  try simp only [Act.put, List.setIfInBounds_toArray, List.set_cons_zero, List.set_cons_succ]
                  refine wpAnyH_take (i := 11) (oi := { dst := some 23, op := Op.assign (Operand.tmp 132), type := 39, pos := "law.go:69", after := #[{ on := 8, ground := Ground.data }, { on := 10, ground := Ground.chain }, { on := 0, ground := Ground.phase }, { on := 1, ground := Ground.phase }, { on := 2, ground := Ground.phase }, { on := 3, ground := Ground.phase }, { on := 4, ground := Ground.phase }, { on := 5, ground := Ground.phase }, { on := 6, ground := Ground.phase }, { on := 7, ground := Ground.phase }, { on := 8, ground := Ground.phase }, { on := 9, ground := Ground.phase }, { on := 10, ground := Ground.phase }], guard := none }) (v := ?q65v) rfl (by kernel_rfl) (by kernel_rfl) (by kernel_rfl) (fun _ _ _ h => h) (Or.inl ⟨by rfl, ?q65h⟩) hHeld ?q65r
                  case q65h => (intro wq hSw; clear hSw; go_simp; try with_reducible rfl)
                  try simp only [Act.put, List.setIfInBounds_toArray, List.set_cons_zero, List.set_cons_succ]
                  refine wpAnyH_done (by kernel_rfl) ?_ _
                  go_wp2_with fail
                  go_meet
                  exact ⟨B6, rfl, rfl, HS20.out⟩
                · rw [if_pos (by rfl)]
                  refine wp_alloc_ob 27 (pgCells (newPg 0)) rfl alloc_page ?_
                  have HS18 : Hid (Hp w [.cd C, .ob B2 27 (pgCells p), .ob B1 27 (pgCells q), .sl (.slice (some ⟨g, 0, none⟩) D.length gc) 29 6 (D.length) (D.flatMap chCells), .ob B5 27 (pgCells (pgWith p r)), .ob (w16.drew.heap.size) 27 (pgCells (newPg 0))] (w16.drew.alloc (.cells (pgCells (newPg 0)).toArray 27))) := ((HS17.out).drew).put 27 (pgCells (newPg 0))
                  refine hK.out _ _ (⟨chRow_at (chRow_own (HS18.out.own 3 rfl) rfl) HC.out, fun j u hu => by rw [Nat.zero_add]; exact HS18.out.at 4 rfl j hu⟩) (fun hHeld => ?_)
                  clear hK K
                  generalize (w16.drew.alloc (.cells (pgCells (newPg 0)).toArray 27)) = w17 at *
                  generalize w16.drew.heap.size = B6 at *
                  try simp only [Act.put, List.setIfInBounds_toArray, List.set_cons_zero, List.set_cons_succ]
                  refine wpAnyH_ready (rs := [5]) (by kernel_rfl) (by simp) ?_
                  refine AllReadyH.cons (o := { dst := some 130, op := Op.call { callee := Callee.value (Operand.func 22), args := #[Operand.tmp 125, Operand.tmp 129], argTypes := #[27, 29] }, type := 46, pos := "law.go:69", after := #[{ on := 0, ground := Ground.data }, { on := 4, ground := Ground.data }], guard := none }) rfl (fun K hK => ?_) (AllReadyH.nil)
                  go_simp
                  go_wp2_with (go_at_call 22; refine (apply_at HAp.out HRg.out HCg.out _).mono ?_; rintro e w18 ⟨rfl, hb⟩)
                  have HS19 : Hid (Hp w [.cd C, .ob B2 27 (pgCells p), .ob B1 27 (pgCells q), .sl (.slice (some ⟨g, 0, none⟩) D.length gc) 29 6 (D.length) (D.flatMap chCells), .ob B5 27 (pgCells (pgWith p r)), .ob B6 27 (pgCells (newPg 0))] w18) := (HS18.out).calls hb
                  refine hK.out _ _ (⟨chRow_at (chRow_own (HS19.out.own 3 rfl) rfl) HC.out, fun j u hu => by rw [Nat.zero_add]; exact HS19.out.at 4 rfl j hu⟩) (fun hHeld => ?_)
                  clear hK K hb
                  try simp only [Act.put, List.setIfInBounds_toArray, List.set_cons_zero, List.set_cons_succ]
                  refine wpAnyH_take (i := 6) (oi := { dst := some 124, op := Op.move (Operand.tmp 130), type := 46, pos := "law.go:69", after := #[{ on := 5, ground := Ground.data }], guard := none }) (v := ?q66v) rfl (by kernel_rfl) (by kernel_rfl) (by kernel_rfl) (fun _ _ _ h => h) (Or.inl ⟨by rfl, ?q66h⟩) hHeld ?q66r
                  case q66h => (intro wq hSw; clear hSw; go_simp; try with_reducible rfl)
                  try simp only [Act.put, List.setIfInBounds_toArray, List.set_cons_zero, List.set_cons_succ]
                  refine wpAnyH_take (i := 7) (oi := { dst := some 131, op := Op.extract (Operand.tmp 124) 0, type := 27, pos := "law.go:69", after := #[{ on := 6, ground := Ground.data }], guard := none }) (v := ?q67v) rfl (by kernel_rfl) (by kernel_rfl) (by kernel_rfl) (fun _ _ _ h => h) (Or.inl ⟨by rfl, ?q67h⟩) hHeld ?q67r
                  case q67h => (intro wq hSw; clear hSw; go_simp; try with_reducible rfl)
                  try simp only [Act.put, List.setIfInBounds_toArray, List.set_cons_zero, List.set_cons_succ]
                  refine wpAnyH_take (i := 8) (oi := { dst := some 132, op := Op.extract (Operand.tmp 124) 1, type := 39, pos := "law.go:69", after := #[{ on := 6, ground := Ground.data }, { on := 10, ground := Ground.gcOnly Departure.lateStores }], guard := none }) (v := ?q68v) rfl (by kernel_rfl) (by kernel_rfl) (by kernel_rfl) (fun _ _ _ h => h) (Or.inl ⟨by rfl, ?q68h⟩) hHeld ?q68r
                  case q68h => (intro wq hSw; clear hSw; go_simp; try with_reducible rfl)
                  try simp only [Act.put, List.setIfInBounds_toArray, List.set_cons_zero, List.set_cons_succ]
                  refine wpAnyH_ready (rs := [10]) (by kernel_rfl) (by simp) ?_
                  refine AllReadyH.cons (o := { dst := none, op := Op.store 27 (Operand.tmp 22) (Operand.tmp 131), type := 0, pos := "law.go:69", after := #[{ on := 9, ground := Ground.data }, { on := 7, ground := Ground.data }, { on := 5, ground := Ground.chain }, { on := 0, ground := Ground.phase }, { on := 1, ground := Ground.phase }, { on := 2, ground := Ground.phase }, { on := 3, ground := Ground.phase }, { on := 4, ground := Ground.phase }, { on := 5, ground := Ground.phase }, { on := 6, ground := Ground.phase }, { on := 7, ground := Ground.phase }, { on := 8, ground := Ground.textOnly Departure.lateStores }, { on := 9, ground := Ground.phase }], guard := none }) rfl (fun K hK => ?_) (AllReadyH.nil)
                  rw [if_pos (by rfl)]
                  refine wp_store_ob 27 (.tmp 22) (.tmp 131) B6 (pgCells (pgWith p r2)) (pgCells (newPg 0)) 27 rfl rfl rfl rfl ((HS19.out).get 5 rfl) ((info_pgc HR2g.out.len)) ((by rw [pgCells_len HR2g.out.len, pgCells_len (p := (newPg 0)) rfl])) ((oneCell_pg _)) ?_
                  have HS20 : Hid (Hp w [.cd C, .ob B2 27 (pgCells p), .ob B1 27 (pgCells q), .sl (.slice (some ⟨g, 0, none⟩) D.length gc) 29 6 (D.length) (D.flatMap chCells), .ob B5 27 (pgCells (pgWith p r)), .ob B6 27 (pgCells (pgWith p r2))] (w18.setRow B6 (pgCells (pgWith p r2)).toArray)) := (HS19.out).row 5 rfl (pgCells (pgWith p r2))
                  refine hK.out _ _ (⟨chRow_at (chRow_own (HS20.out.own 3 rfl) rfl) HC.out, fun j u hu => by rw [Nat.zero_add]; exact HS20.out.at 4 rfl j hu⟩) (fun hHeld => ?_)
                  clear hK K
                  generalize (w18.setRow B6 (pgCells (pgWith p r2)).toArray) = w19 at *
                  try simp only [Act.put, List.setIfInBounds_toArray, List.set_cons_zero, List.set_cons_succ]
                  refine wpAnyH_take (i := 11) (oi := { dst := some 23, op := Op.assign (Operand.tmp 132), type := 39, pos := "law.go:69", after := #[{ on := 8, ground := Ground.data }, { on := 10, ground := Ground.chain }, { on := 0, ground := Ground.phase }, { on := 1, ground := Ground.phase }, { on := 2, ground := Ground.phase }, { on := 3, ground := Ground.phase }, { on := 4, ground := Ground.phase }, { on := 5, ground := Ground.phase }, { on := 6, ground := Ground.phase }, { on := 7, ground := Ground.phase }, { on := 8, ground := Ground.phase }, { on := 9, ground := Ground.phase }, { on := 10, ground := Ground.phase }], guard := none }) (v := ?q69v) rfl (by kernel_rfl) (by kernel_rfl) (by kernel_rfl) (fun _ _ _ h => h) (Or.inl ⟨by rfl, ?q69h⟩) hHeld ?q69r
                  case q69h => (intro wq hSw; clear hSw; go_simp; try with_reducible rfl)
                  try simp only [Act.put, List.setIfInBounds_toArray, List.set_cons_zero, List.set_cons_succ]
                  refine wpAnyH_done (by kernel_rfl) ?_ _
                  go_wp2_with fail
                  go_meet
                  exact ⟨B6, rfl, rfl, HS20.out⟩
              case rest =>
                obtain ⟨B27, rfl, rfl, hs⟩ := hcut
                have HS40 : Hid (Hp w [.cd C, .ob B2 27 (pgCells p), .ob B1 27 (pgCells q), .sl (.slice (some ⟨g, 0, none⟩) D.length gc) 29 6 (D.length) (D.flatMap chCells), .ob B5 27 (pgCells (pgWith p r)), .ob B27 27 (pgCells (pgWith p r2))] wc) := hs
                clear hs HS17
                generalize wc = w40 at *
                go_wp2_with (first | ((with_reducible refine wpList_load_ob 27 (.tmp 22) B27 (pgCells (pgWith p r2)) 27 HUP.out ?_ ?_ ?_ ?_ ?_); (exact rfl); (exact (HS40.out).get 5 rfl); (exact rfl); (exact (info_pgc HR2g.out.len)); simp only [Act.put, List.setIfInBounds_toArray, List.set_cons_zero, List.set_cons_succ]) | ((with_reducible refine wpList_store_ob 27 (.tmp 18) B5 (pgCells (pgWith p r2)) (pgCells (pgWith p r)) 27 ?_ ?_ ?_ ?_ ?_ ?_ ?_); (exact rfl); (exact rfl); (exact (HS40.out).get 4 rfl); (exact (info_pgc HR2g.out.len)); (exact (by rw [pgCells_len HR2g.out.len, pgCells_len (p := (pgWith p r)) HRg.out.len])); (exact (oneCell_pg _)); skip))
                have HS41 : Hid (Hp w [.cd C, .ob B2 27 (pgCells p), .ob B1 27 (pgCells q), .sl (.slice (some ⟨g, 0, none⟩) D.length gc) 29 6 (D.length) (D.flatMap chCells), .ob B5 27 (pgCells (pgWith p r2)), .ob B27 27 (pgCells (pgWith p r2))] (w40.setRow B5 (pgCells (pgWith p r2)).toArray)) := (HS40.out).row 4 rfl (pgCells (pgWith p r2))
                clear HS40
                generalize (w40.setRow B5 (pgCells (pgWith p r2)).toArray) = w41 at *
                have HS42 : Hid (Hp w [.cd C, .ob B2 27 (pgCells p), .ob B1 27 (pgCells q), .sl (.slice (some ⟨g, 0, none⟩) D.length gc) 29 6 (D.length) (D.flatMap chCells), .ob B5 27 (pgCells (pgWith p r2))] w41) := HS41.out.pull [0, 1, 2, 3, 4] rfl (pull_nd HS41.out.nd [0, 1, 2, 3, 4] rfl (by decide))
                clear HS41
                go_roundw
                case rel => exact ⟨ni + 1, r2, by omega, by go_num, HRo2.out, HS42.out⟩
                case measure => simp [intOf]; omega
        · obtain rfl : ni = D.length := by omega
          have hr : r = q.cells := todo_zero _ _ (by rw [HRo.out.mid.len, HPl.out, HQl.out]) (by have := HRo.out.left; omega)
          subst hr
          have HS90 := Lib.hid hs
          clear hs
          have heq : ∀ W, Sem.run Try.prog (binOp .eql 25 (.agg (rowCells q.cells).toArray) (.agg (rowCells q.cells).toArray)) W = .ok (.bool true) W := fun W => by
            have := run_eql (equal_cells q.cells q.cells HQl.out HQl.out HGq.out.data HGq.out.data) W
            rw [sameV_self] at this
            exact this
          have l1 : wr.cell? ⟨B5, 1, none⟩ = some (.int .i64 p.lsn) := HS90.out.at 4 rfl 1 rfl
          have l2 : wr.cell? ⟨B2, 1, none⟩ = some (.int .i64 p.lsn) := HS90.out.at 1 rfl 1 rfl
          have HO := Lib.hid HS90.out.old
          go_wp2_with (first | ((with_reducible refine wpList_load_at_w 25 (.tmp 139) B5 (2) (rowCells q.cells) HUR.out ?_ ?_ ?_ ?_ ?_ ?_); (exact rfl); (exact rfl); (exact (HS90.out).mid 4 rfl (2) _ (page_row (pgWith p q.cells))); (exact rfl); (exact (info_row HQl.out)); simp only [Act.put, List.setIfInBounds_toArray, List.set_cons_zero, List.set_cons_succ]) | ((with_reducible refine wpList_load_at_w 25 (.tmp 141) B1 (2) (rowCells q.cells) HUR.out ?_ ?_ ?_ ?_ ?_ ?_); (exact rfl); (exact rfl); (exact (HS90.out).mid 2 rfl (2) _ (page_row q)); (exact rfl); (exact (info_row HQl.out)); simp only [Act.put, List.setIfInBounds_toArray, List.set_cons_zero, List.set_cons_succ]))
          go_ret
          exact ⟨rfl, HO.out⟩
end Go.Proofs.Ytbadfcnkpeohfaa
