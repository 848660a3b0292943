/- the law ChangeRows -/
import Derived.Test.YtbadfcnkpeohfaaJoined
namespace Go.Proofs.Ytbadfcnkpeohfaa
open Go.RowKit

set_option maxHeartbeats 16000000 in
set_option maxRecDepth 20000 in
theorem rows_any (x : Option Addr) (len cap : Nat) (zs : List Int) (ct : Int) (w : World) (hr : IsRow .u8 w x len cap zs) (hct : 0 ≤ ct ∧ ct ≤ 255) :
    Calls Try.prog 6 #[.slice x len cap, .int .u8 ct] w fun e w' => e = .returned (.bool true) ∧ Below w.heap.size w w' := by
  have HR := Lib.hid hr
  clear hr
  obtain ⟨fs, hu⟩ := under_ch
  have HU := Lib.hid hu
  clear hu
  obtain ⟨fp, hu⟩ := under_page
  have HUP := Lib.hid hu
  clear hu
  obtain ⟨fc, hu⟩ := under_cell
  have HUC := Lib.hid hu
  clear hu
  have HUS : Hid (Try.prog.underlying 51 = some (.slice 29)) := Try.underlying51
  have HCt := Lib.hid hct
  clear hct
  go_enter Try.func6, Try.ntmps6
  go_wp2_with fail
  refine (awake_ch _).mono ?_
  rintro e w1 ⟨rfl, hb⟩
  have HS0 : Hid (Hp w [] w1) := (Hp.start w).calls hb
  clear hb
  go_wp2_with fail
  refine (new_hp 200 (by omega) HS0.out HR.out).mono ?_
  rintro e w2 ⟨rfl, hs⟩
  have HS1 : Hid (Hp w [.cd w1.heap.size] w2) := hs
  clear hs HS0 HR
  generalize w1.heap.size = C at *
  go_wp2_with fail
  refine (draw_page C 2 _ ((HS1.out).codes 0 rfl)).mono ?_
  rintro e w3 ⟨p, rfl, hp, hb, hc⟩
  have HS1 : Hid (Hp w [.cd C] w3) := (HS1.out).draws 0 rfl hb hc
  clear hb hc
  have HP := Lib.hid hp
  have HPl := Lib.hid hp.len
  clear hp
  go_wp2_with (first | ((with_reducible refine wpList_alloc_ob 27 (pgCells (newPg 0)) ?_ ?_); (exact alloc_page); simp only [Act.put, List.setIfInBounds_toArray, List.set_cons_zero, List.set_cons_succ]) | ((with_reducible refine wpList_store_ob 27 (.tmp 6) (w3.heap.size) (pgCells p) (pgCells (newPg 0)) 27 ?_ ?_ ?_ ?_ ?_ ?_ ?_); (exact rfl); (exact rfl); (exact ((HS1.out).put 27 (pgCells (newPg 0))).get 1 rfl); (exact (info_pgc HPl.out)); (exact (by rw [pgCells_len HPl.out, pgCells_len (p := (newPg 0)) rfl])); (exact (oneCell_pg _)); skip))
  refine (next_any C 16 _ ((((HS1.out).put 27 (pgCells (newPg 0))).row 1 rfl (pgCells p)).codes 0 rfl) (by omega)).mono ?_
  rintro e w4 ⟨sn, rfl, s0, s1, hb, hc⟩
  have HS2 : Hid (Hp w [.cd C, .ob (w3.heap.size) 27 (pgCells p)] w4) := (((HS1.out).put 27 (pgCells (newPg 0))).row 1 rfl (pgCells p)).draws 0 rfl hb hc
  clear hb hc
  clear HS1
  generalize w3.heap.size = B1 at *
  obtain ⟨s, rfl⟩ := Int.eq_ofNat_of_zero_le s0
  have hs16 : s < 16 := by omega
  have HS16 := Lib.hid hs16
  clear s0 s1
  have hsl : s < p.cells.length := by rw [HPl.out]; exact hs16
  obtain ⟨c, hcx⟩ : ∃ c, p.cells[s] = c := ⟨_, rfl⟩
  have HM : Hid (∀ j v, (clCells c)[j]? = some v → (pgCells p)[2 + s * 2 + j]? = some v) := by show ∀ j v, _; rw [← hcx]; exact pgCells_mid p s hsl
  have HCX : Hid (p.cells.getD s emptyCl = c) := (getD_eq hsl).trans hcx
  have HCO : Hid (cellOkB c = true) := by show _ = _; rw [← HCX.out]; exact HP.out.cellOk s
  have hs0 : (0 : Int) ≤ (s : Int) := by omega
  have hsi : (s : Int) < 16 := by omega
  clear hcx hsl hs16
  go_wp2_with (first | ((with_reducible refine wpList_load_at 24 (.tmp 38) B1 ((2 + s * 2)) (clCells c) HUC.out ?_ ?_ ?_ ?_ ?_); (exact rfl); (exact (HS2.out).mid 1 rfl (2 + s * 2) (clCells c) HM.out); (exact rfl); (exact info_cl); simp only [Act.put, List.setIfInBounds_toArray, List.set_cons_zero, List.set_cons_succ]) | ((with_reducible refine wpList_alloc_ob 24 (clCells emptyCl) ?_ ?_); (exact alloc_cl); simp only [Act.put, List.setIfInBounds_toArray, List.set_cons_zero, List.set_cons_succ]) | ((with_reducible refine wpList_store_ob 24 (.tmp 9) (w4.heap.size) (clCells c) (clCells emptyCl) 24 ?_ ?_ ?_ ?_ ?_ ?_ ?_); (exact rfl); (exact rfl); (exact ((HS2.out).put 24 (clCells emptyCl)).get 2 rfl); (exact info_cl); (exact rfl); (exact (oneCell_cl _)); skip))
  refine (next_any C 8 _ ((((HS2.out).put 24 (clCells emptyCl)).row 2 rfl (clCells c)).codes 0 rfl) (by omega)).mono ?_
  rintro e w5 ⟨xn, rfl, x0, x1, hb, hc⟩
  have HS3 : Hid (Hp w [.cd C, .ob B1 27 (pgCells p), .ob (w4.heap.size) 24 (clCells c)] w5) := (((HS2.out).put 24 (clCells emptyCl)).row 2 rfl (clCells c)).draws 0 rfl hb hc
  clear hb hc
  clear HS2
  generalize w4.heap.size = B2 at *
  obtain ⟨N, rfl⟩ := Int.eq_ofNat_of_zero_le x0
  have hN : N < 8 := by omega
  have hN2 : IntKind.i64.wrap (2 + (N : Int)) = 2 + (N : Int) := IntWalk.i64_in _ (by omega)
  clear x0 x1
  go_wp2_with fail
  have HS4 : Hid (Hp w [.cd C, .ob B1 27 (pgCells p), .ob B2 24 (clCells c)] w5) := HS3.out
  clear HS3
  have HL : Hid (Hp w [.cd C, .ob B1 27 (pgCells p), .ob B2 24 (clCells c), .sl (.slice none 0 0) 29 6 0 []] w5) := HS4.out.nil 29 6
  clear HS4
  go_loopw [8, 10] (fun sv i wr => ∃ (v : Value) (cs : List Cl) (j : Nat), v = sv ∧ i = .int .i64 j ∧ cs.length + j = N + 2 ∧ (∀ x ∈ cs, cellOkB x = true) ∧ Hp w [.cd C, .ob B1 27 (pgCells p), .ob B2 24 (clCells (endOf c cs)), .sl v 29 6 cs.length ((links s c cs).flatMap chCells)] wr) (fun _ i _ => (intOf i).toNat)
  case atStart => exact ⟨_, [], N + 2, rfl, by congr 1; omega, by simp, by simp, HL.out⟩
  case round =>
    obtain ⟨v, cs, j, hv, rfl, hj, hok, hs⟩ := hrel
    subst hv
    have HOk : Hid (RowOk s c cs) := ⟨hs0, hsi, HCO.out, hok⟩
    have HLn := Lib.hid hj
    clear HL hok
    by_cases hlt : 0 < j
    · have hji : (0 : Int) < (j : Int) := by omega
      have hj1 : IntKind.i64.wrap ((j : Int) - 1) = (j : Int) - 1 := IntWalk.i64_in _ (by omega)
      have HJp := Lib.hid hlt
      have hoa := HOk.out.endOf
      generalize hea : endOf c cs = a at hs hoa
      have HEA := Lib.hid hea
      have HOa := Lib.hid hoa
      have HY := Lib.hid hs
      clear hs hea hoa hlt hj
      go_upto_region 11 with (fail)
      go_cut [11] (fun s11 wx => ∃ bq0, ∃ (y : Cl), s11 = .pointer (some ⟨bq0, 0, none⟩) ∧ cellOkB y = true ∧ Hp w [.cd C, .ob B1 27 (pgCells p), .ob B2 24 (clCells a), .sl v 29 6 (cs.length) ((links s c cs).flatMap chCells), .ob bq0 29 (chCells ⟨2, (s : Int), a, y⟩)] wx)
      case first =>
        refine wp_region_held_drew (S := fun w' => Hold w.heap.size [.ob B1 27 (pgCells p), .ob B2 24 (clCells a)] w') (by kernel_rfl) ((HY.out).drew.pick [1, 2] rfl) (fun hHeld => ?_)
        refine wpAnyH_take (i := 0) (oi := { dst := some 47, op := Op.move (Operand.tmp 7), type := 3, pos := "more.go:21", after := #[], guard := none }) (v := ?q1v) rfl (by kernel_rfl) (by kernel_rfl) (by kernel_rfl) (fun _ _ _ h => h) (Or.inl ⟨by rfl, ?q1h⟩) hHeld ?q1r
        case q1h => (intro wq hSw; clear hSw; go_simp; try with_reducible rfl)
        try simp only [Act.put, List.setIfInBounds_toArray, List.set_cons_zero, List.set_cons_succ]
        refine wpAnyH_take (i := 1) (oi := { dst := some 48, op := Op.load 24 (Operand.tmp 9), type := 24, pos := "more.go:21", after := #[], guard := none }) rfl (by kernel_rfl) (by kernel_rfl) (by kernel_rfl) (fun _ _ _ h => h) (yieldsIf_load_mid (by rfl) 24 (.tmp 9) rfl B2 0 rfl (clCells a) _ (fun _ h => h.whole 1 rfl) HUC.out rfl (info_cl)) hHeld ?_
        try simp only [Act.put, List.setIfInBounds_toArray, List.set_cons_zero, List.set_cons_succ]
        refine wpAnyH_take (i := 2) (oi := { dst := some 49, op := Op.move (Operand.tmp 5), type := 31, pos := "more.go:21", after := #[], guard := none }) (v := ?q3v) rfl (by kernel_rfl) (by kernel_rfl) (by kernel_rfl) (fun _ _ _ h => h) (Or.inl ⟨by rfl, ?q3h⟩) hHeld ?q3r
        case q3h => (intro wq hSw; clear hSw; go_simp; try with_reducible rfl)
        try simp only [Act.put, List.setIfInBounds_toArray, List.set_cons_zero, List.set_cons_succ]
        refine wpAnyH_ready (rs := [3, 5]) (by kernel_rfl) (by simp) ?_
        refine AllReadyH.cons (o := { dst := some 50, op := Op.call { callee := Callee.value (Operand.func 27), args := #[Operand.tmp 49], argTypes := #[31] }, type := 24, pos := "more.go:21", after := #[{ on := 2, ground := Ground.data }], guard := none }) rfl (fun K hK => ?_) (AllReadyH.cons (o := { dst := some 11, op := Op.alloc 29, type := 0, pos := "more.go:21", after := #[], guard := none }) rfl (fun K hK => ?_) (AllReadyH.nil))
        · go_simp
          go_wp2_with (go_at_call 27; refine (draw_cell C _ (((HY.out).drew).codes 0 rfl)).mono ?_; rintro e w6 ⟨y, rfl, hyo, hb, hc⟩)
          have HS5 : Hid (Hp w [.cd C, .ob B1 27 (pgCells p), .ob B2 24 (clCells a), .sl v 29 6 (cs.length) ((links s c cs).flatMap chCells)] w6) := ((HY.out).drew).draws 0 rfl hb hc
          refine hK.out _ _ (HS5.out.pick [1, 2] rfl) (fun hHeld => ?_)
          clear hK K hb hc
          have HYo := Lib.hid hyo
          clear hyo
          have hbu : ∀ W, Sem.run Try.prog (Instr.build 29 #[(0, .int .i64 2), (1, .int .i64 (s : Int)), (2, .agg (clCells a).toArray), (3, .agg (clCells y).toArray)]) W = .ok (.agg (chCells ⟨2, (s : Int), a, y⟩).toArray) W := fun W => by kernel_rfl
          try simp only [Act.put, List.setIfInBounds_toArray, List.set_cons_zero, List.set_cons_succ]
          refine wpAnyH_take (i := 4) (oi := { dst := some 51, op := Op.build 29 #[(0, Operand.const (Value.int IntKind.i64 2)), (1, Operand.tmp 47), (2, Operand.tmp 48), (3, Operand.tmp 50)], type := 29, pos := "more.go:21", after := #[{ on := 0, ground := Ground.data }, { on := 1, ground := Ground.data }, { on := 3, ground := Ground.data }], guard := none }) rfl (by kernel_rfl) (by kernel_rfl) (by kernel_rfl) (fun _ _ _ h => h) (yieldsIf_build_v (by rfl) 29 (.agg (chCells ⟨2, (s : Int), a, y⟩).toArray) rfl (fun W => by simp only [List.map_toArray, List.map_cons, List.map_nil]; exact hbu W)) hHeld ?_
          try simp only [Act.put, List.setIfInBounds_toArray, List.set_cons_zero, List.set_cons_succ]
          refine wpAnyH_ready (rs := [5]) (by kernel_rfl) (by simp) ?_
          refine AllReadyH.cons (o := { dst := some 11, op := Op.alloc 29, type := 0, pos := "more.go:21", after := #[], guard := none }) rfl (fun K hK => ?_) (AllReadyH.nil)
          rw [if_pos (by rfl)]
          refine wp_alloc_ob 29 (chCells chNil) rfl alloc_ch ?_
          have HS6 : Hid (Hp w [.cd C, .ob B1 27 (pgCells p), .ob B2 24 (clCells a), .sl v 29 6 (cs.length) ((links s c cs).flatMap chCells), .ob (w6.heap.size) 29 (chCells chNil)] (w6.alloc (.cells (chCells chNil).toArray 29))) := (HS5.out).put 29 (chCells chNil)
          refine hK.out _ _ (HS6.out.pick [1, 2] rfl) (fun hHeld => ?_)
          clear hK K
          generalize (w6.alloc (.cells (chCells chNil).toArray 29)) = w7 at *
          generalize w6.heap.size = B3 at *
          try simp only [Act.put, List.setIfInBounds_toArray, List.set_cons_zero, List.set_cons_succ]
          refine wpAnyH_ready (rs := [6]) (by kernel_rfl) (by simp) ?_
          refine AllReadyH.cons (o := { dst := none, op := Op.store 29 (Operand.tmp 11) (Operand.tmp 51), type := 0, pos := "more.go:21", after := #[{ on := 5, ground := Ground.data }, { on := 4, ground := Ground.data }, { on := 3, ground := Ground.chain }, { on := 0, ground := Ground.phase }, { on := 1, ground := Ground.phase }, { on := 2, ground := Ground.phase }, { on := 3, ground := Ground.phase }, { on := 4, ground := Ground.phase }, { on := 5, ground := Ground.phase }], guard := none }) rfl (fun K hK => ?_) (AllReadyH.nil)
          rw [if_pos (by rfl)]
          refine wp_store_ob 29 (.tmp 11) (.tmp 51) B3 (chCells ⟨2, (s : Int), a, y⟩) (chCells chNil) 29 rfl rfl rfl rfl ((HS6.out).get 4 rfl) (info_ch) (rfl) ((oneCell_ch _)) ?_
          have HS7 : Hid (Hp w [.cd C, .ob B1 27 (pgCells p), .ob B2 24 (clCells a), .sl v 29 6 (cs.length) ((links s c cs).flatMap chCells), .ob B3 29 (chCells ⟨2, (s : Int), a, y⟩)] (w7.setRow B3 (chCells ⟨2, (s : Int), a, y⟩).toArray)) := (HS6.out).row 4 rfl (chCells ⟨2, (s : Int), a, y⟩)
          refine hK.out _ _ (HS7.out.pick [1, 2] rfl) (fun hHeld => ?_)
          clear hK K
          generalize (w7.setRow B3 (chCells ⟨2, (s : Int), a, y⟩).toArray) = w8 at *
          try simp only [Act.put, List.setIfInBounds_toArray, List.set_cons_zero, List.set_cons_succ]
          refine wpAnyH_done (by kernel_rfl) ?_ _
          go_wp2_with fail
          go_meet
          exact ⟨B3, y, rfl, HYo.out, HS7.out⟩
        · rw [if_pos (by rfl)]
          refine wp_alloc_ob 29 (chCells chNil) rfl alloc_ch ?_
          have HS5 : Hid (Hp w [.cd C, .ob B1 27 (pgCells p), .ob B2 24 (clCells a), .sl v 29 6 (cs.length) ((links s c cs).flatMap chCells), .ob (wr.drew.heap.size) 29 (chCells chNil)] (wr.drew.alloc (.cells (chCells chNil).toArray 29))) := ((HY.out).drew).put 29 (chCells chNil)
          refine hK.out _ _ (HS5.out.pick [1, 2] rfl) (fun hHeld => ?_)
          clear hK K
          generalize (wr.drew.alloc (.cells (chCells chNil).toArray 29)) = w6 at *
          generalize wr.drew.heap.size = B3 at *
          try simp only [Act.put, List.setIfInBounds_toArray, List.set_cons_zero, List.set_cons_succ]
          refine wpAnyH_ready (rs := [3]) (by kernel_rfl) (by simp) ?_
          refine AllReadyH.cons (o := { dst := some 50, op := Op.call { callee := Callee.value (Operand.func 27), args := #[Operand.tmp 49], argTypes := #[31] }, type := 24, pos := "more.go:21", after := #[{ on := 2, ground := Ground.data }], guard := none }) rfl (fun K hK => ?_) (AllReadyH.nil)
          go_simp
          go_wp2_with (go_at_call 27; refine (draw_cell C _ ((HS5.out).codes 0 rfl)).mono ?_; rintro e w7 ⟨y, rfl, hyo, hb, hc⟩)
          have HS6 : Hid (Hp w [.cd C, .ob B1 27 (pgCells p), .ob B2 24 (clCells a), .sl v 29 6 (cs.length) ((links s c cs).flatMap chCells), .ob B3 29 (chCells chNil)] w7) := (HS5.out).draws 0 rfl hb hc
          refine hK.out _ _ (HS6.out.pick [1, 2] rfl) (fun hHeld => ?_)
          clear hK K hb hc
          have HYo := Lib.hid hyo
          clear hyo
          have hbu : ∀ W, Sem.run Try.prog (Instr.build 29 #[(0, .int .i64 2), (1, .int .i64 (s : Int)), (2, .agg (clCells a).toArray), (3, .agg (clCells y).toArray)]) W = .ok (.agg (chCells ⟨2, (s : Int), a, y⟩).toArray) W := fun W => by kernel_rfl
          try simp only [Act.put, List.setIfInBounds_toArray, List.set_cons_zero, List.set_cons_succ]
          refine wpAnyH_take (i := 4) (oi := { dst := some 51, op := Op.build 29 #[(0, Operand.const (Value.int IntKind.i64 2)), (1, Operand.tmp 47), (2, Operand.tmp 48), (3, Operand.tmp 50)], type := 29, pos := "more.go:21", after := #[{ on := 0, ground := Ground.data }, { on := 1, ground := Ground.data }, { on := 3, ground := Ground.data }], guard := none }) rfl (by kernel_rfl) (by kernel_rfl) (by kernel_rfl) (fun _ _ _ h => h) (yieldsIf_build_v (by rfl) 29 (.agg (chCells ⟨2, (s : Int), a, y⟩).toArray) rfl (fun W => by simp only [List.map_toArray, List.map_cons, List.map_nil]; exact hbu W)) hHeld ?_
          try simp only [Act.put, List.setIfInBounds_toArray, List.set_cons_zero, List.set_cons_succ]
          refine wpAnyH_ready (rs := [6]) (by kernel_rfl) (by simp) ?_
          refine AllReadyH.cons (o := { dst := none, op := Op.store 29 (Operand.tmp 11) (Operand.tmp 51), type := 0, pos := "more.go:21", after := #[{ on := 5, ground := Ground.data }, { on := 4, ground := Ground.data }, { on := 3, ground := Ground.chain }, { on := 0, ground := Ground.phase }, { on := 1, ground := Ground.phase }, { on := 2, ground := Ground.phase }, { on := 3, ground := Ground.phase }, { on := 4, ground := Ground.phase }, { on := 5, ground := Ground.phase }], guard := none }) rfl (fun K hK => ?_) (AllReadyH.nil)
          rw [if_pos (by rfl)]
          refine wp_store_ob 29 (.tmp 11) (.tmp 51) B3 (chCells ⟨2, (s : Int), a, y⟩) (chCells chNil) 29 rfl rfl rfl rfl ((HS6.out).get 4 rfl) (info_ch) (rfl) ((oneCell_ch _)) ?_
          have HS7 : Hid (Hp w [.cd C, .ob B1 27 (pgCells p), .ob B2 24 (clCells a), .sl v 29 6 (cs.length) ((links s c cs).flatMap chCells), .ob B3 29 (chCells ⟨2, (s : Int), a, y⟩)] (w7.setRow B3 (chCells ⟨2, (s : Int), a, y⟩).toArray)) := (HS6.out).row 4 rfl (chCells ⟨2, (s : Int), a, y⟩)
          refine hK.out _ _ (HS7.out.pick [1, 2] rfl) (fun hHeld => ?_)
          clear hK K
          generalize (w7.setRow B3 (chCells ⟨2, (s : Int), a, y⟩).toArray) = w8 at *
          try simp only [Act.put, List.setIfInBounds_toArray, List.set_cons_zero, List.set_cons_succ]
          refine wpAnyH_done (by kernel_rfl) ?_ _
          go_wp2_with fail
          go_meet
          exact ⟨B3, y, rfl, HYo.out, HS7.out⟩
      case rest =>
        obtain ⟨B24, y, rfl, hx, hs⟩ := hcut
        have HS27 : Hid (Hp w [.cd C, .ob B1 27 (pgCells p), .ob B2 24 (clCells a), .sl v 29 6 (cs.length) ((links s c cs).flatMap chCells), .ob B24 29 (chCells ⟨2, (s : Int), a, y⟩)] wc) := hs
        clear hs HY
        generalize wc = w29 at *
        have HYo := Lib.hid hx
        clear hx
        go_upto_region 12 with (fail)
        refine wp_region_held_drew (S := fun w' => Hold w.heap.size [.ob B24 29 (chCells ⟨2, (s : Int), a, y⟩)] w') (by kernel_rfl) ((HS27.out).drew.pick [4] rfl) (fun hHeld => ?_)
        refine wpAnyH_take (i := 0) (oi := { dst := some 52, op := Op.move (Operand.tmp 8), type := 51, pos := "more.go:22", after := #[], guard := none }) (v := ?q6v) rfl (by kernel_rfl) (by kernel_rfl) (by kernel_rfl) (fun _ _ _ h => h) (Or.inl ⟨by rfl, ?q6h⟩) hHeld ?q6r
        case q6h => (intro wq hSw; clear hSw; go_simp; try with_reducible rfl)
        try simp only [Act.put, List.setIfInBounds_toArray, List.set_cons_zero, List.set_cons_succ]
        refine wpAnyH_take (i := 1) (oi := { dst := some 53, op := Op.load 29 (Operand.tmp 11), type := 29, pos := "more.go:22", after := #[], guard := none }) rfl (by kernel_rfl) (by kernel_rfl) (by kernel_rfl) (fun _ _ _ h => h) (yieldsIf_load_mid (by rfl) 29 (.tmp 11) rfl B24 0 rfl (chCells ⟨2, (s : Int), a, y⟩) _ (fun _ h => h.whole 0 rfl) HU.out rfl (info_ch)) hHeld ?_
        try simp only [Act.put, List.setIfInBounds_toArray, List.set_cons_zero, List.set_cons_succ]
        refine wpAnyH_take (i := 4) (oi := { dst := some 56, op := Op.fieldAddr 29 (Operand.tmp 11) 3, type := 0, pos := "more.go:22", after := #[{ on := 6, ground := Ground.gcOnly Departure.lateStores }], guard := none }) (v := ?q8v) rfl (by kernel_rfl) (by kernel_rfl) (by kernel_rfl) (fun _ _ _ h => h) (Or.inl ⟨by rfl, ?q8h⟩) hHeld ?q8r
        case q8h => (intro wq hSw; clear hSw; go_simp; try with_reducible rfl)
        try simp only [Act.put, List.setIfInBounds_toArray, List.set_cons_zero, List.set_cons_succ]
        refine wpAnyH_take (i := 5) (oi := { dst := some 57, op := Op.load 24 (Operand.tmp 56), type := 24, pos := "more.go:22", after := #[{ on := 4, ground := Ground.data }, { on := 6, ground := Ground.gcOnly Departure.lateStores }], guard := none }) rfl (by kernel_rfl) (by kernel_rfl) (by kernel_rfl) (fun _ _ _ h => h) (yieldsIf_load_mid (by rfl) 24 (.tmp 56) rfl B24 (4) rfl (clCells y) _ (fun _ h => h.mid 0 rfl (4) _ (ch_after ⟨2, (s : Int), a, y⟩)) HUC.out rfl (info_cl)) hHeld ?_
        try simp only [Act.put, List.setIfInBounds_toArray, List.set_cons_zero, List.set_cons_succ]
        refine wpAnyH_ready (rs := [2]) (by kernel_rfl) (by simp) ?_
        refine AllReadyH.cons (o := { dst := some 54, op := Op.buildSlice 51 1 #[(0, Operand.tmp 53)], type := 51, pos := "more.go:22", after := #[{ on := 1, ground := Ground.data }], guard := none }) rfl (fun K hK => ?_) (AllReadyH.nil)
        rw [if_pos (by rfl)]
        refine wp_build_obs rfl elem_ch HUS.out [chCells ⟨2, (s : Int), a, y⟩] (List.forall_mem_cons.2 ⟨rfl, (fun _ h => absurd h List.not_mem_nil)⟩) (Nat.succ_pos _) (by simp only [List.length_cons, List.length_nil]; omega) rfl (by simp only [List.map_toArray, List.map_cons, List.map_nil, List.zipIdx_cons, List.zipIdx_nil]; exact rfl) ?_
        have HS28 : Hid (Hp w [.cd C, .ob B1 27 (pgCells p), .ob B2 24 (clCells a), .sl v 29 6 (cs.length) ((links s c cs).flatMap chCells), .ob B24 29 (chCells ⟨2, (s : Int), a, y⟩), .ob (w29.drew.heap.size) 29 (([chCells ⟨2, (s : Int), a, y⟩] : List (List Value)).flatMap id)] (w29.drew.alloc (.cells (([chCells ⟨2, (s : Int), a, y⟩] : List (List Value)).flatMap id).toArray 29))) := ((HS27.out).drew).put 29 (([chCells ⟨2, (s : Int), a, y⟩] : List (List Value)).flatMap id)
        refine hK.out _ _ (HS28.out.pick [4] rfl) (fun hHeld => ?_)
        clear hK K
        generalize (w29.drew.alloc (.cells (([chCells ⟨2, (s : Int), a, y⟩] : List (List Value)).flatMap id).toArray 29)) = w30 at *
        generalize w29.drew.heap.size = B25 at *
        try simp only [Act.put, List.setIfInBounds_toArray, List.set_cons_zero, List.set_cons_succ]
        refine wpAnyH_ready (rs := [3]) (by kernel_rfl) (by simp) ?_
        refine AllReadyH.cons (o := { dst := some 55, op := Op.call { callee := Callee.builtin Builtin.append, args := #[Operand.tmp 52, Operand.tmp 54], argTypes := #[51, 51] }, type := 51, pos := "more.go:22", after := #[{ on := 0, ground := Ground.data }, { on := 2, ground := Ground.data }], guard := none }) rfl (fun K hK => ?_) (AllReadyH.nil)
        rw [if_pos (by rfl)]
        refine wp_append_hp (HS28.out) (.tmp 52) (.tmp 54) 51 rfl 3 rfl 5 rfl HUS.out elem_ch 1 1 rfl rfl rfl (one_ch _) (by have := HLn.out; omega) ?_
        intro v31 w31 hs hnil
        have HS30 : Hid (Hp w [.cd C, .ob B1 27 (pgCells p), .ob B2 24 (clCells a), .sl v31 29 6 (cs.length + 1) (((links s c cs).flatMap chCells) ++ (([chCells ⟨2, (s : Int), a, y⟩] : List (List Value)).flatMap id)), .ob B24 29 (chCells ⟨2, (s : Int), a, y⟩), .ob B25 29 (([chCells ⟨2, (s : Int), a, y⟩] : List (List Value)).flatMap id)] w31) := hs
        refine hK.out _ _ (HS30.out.pick [4] rfl) (fun hHeld => ?_)
        clear hK K hs
        try simp only [Act.put, List.setIfInBounds_toArray, List.set_cons_zero, List.set_cons_succ]
        refine wpAnyH_take (i := 6) (oi := { dst := some 8, op := Op.assign (Operand.tmp 55), type := 51, pos := "more.go:22", after := #[{ on := 3, ground := Ground.data }, { on := 3, ground := Ground.chain }, { on := 0, ground := Ground.phase }, { on := 1, ground := Ground.phase }, { on := 2, ground := Ground.phase }, { on := 3, ground := Ground.phase }, { on := 4, ground := Ground.textOnly Departure.lateStores }, { on := 5, ground := Ground.textOnly Departure.lateStores }], guard := none }) (v := ?q10v) rfl (by kernel_rfl) (by kernel_rfl) (by kernel_rfl) (fun _ _ _ h => h) (Or.inl ⟨by rfl, ?q10h⟩) hHeld ?q10r
        case q10h => (intro wq hSw; clear hSw; go_simp; try with_reducible rfl)
        try simp only [Act.put, List.setIfInBounds_toArray, List.set_cons_zero, List.set_cons_succ]
        refine wpAnyH_ready (rs := [7]) (by kernel_rfl) (by simp) ?_
        refine AllReadyH.cons (o := { dst := none, op := Op.store 24 (Operand.tmp 9) (Operand.tmp 57), type := 0, pos := "more.go:22", after := #[{ on := 5, ground := Ground.data }, { on := 6, ground := Ground.chain }, { on := 0, ground := Ground.phase }, { on := 1, ground := Ground.phase }, { on := 2, ground := Ground.phase }, { on := 3, ground := Ground.phase }, { on := 4, ground := Ground.phase }, { on := 5, ground := Ground.phase }, { on := 6, ground := Ground.phase }], guard := none }) rfl (fun K hK => ?_) (AllReadyH.nil)
        rw [if_pos (by rfl)]
        refine wp_store_ob 24 (.tmp 9) (.tmp 57) B2 (clCells y) (clCells a) 24 rfl rfl rfl rfl ((HS30.out).get 2 rfl) (info_cl) (rfl) ((oneCell_cl _)) ?_
        have HS31 : Hid (Hp w [.cd C, .ob B1 27 (pgCells p), .ob B2 24 (clCells y), .sl v31 29 6 (cs.length + 1) (((links s c cs).flatMap chCells) ++ (([chCells ⟨2, (s : Int), a, y⟩] : List (List Value)).flatMap id)), .ob B24 29 (chCells ⟨2, (s : Int), a, y⟩), .ob B25 29 (([chCells ⟨2, (s : Int), a, y⟩] : List (List Value)).flatMap id)] (w31.setRow B2 (clCells y).toArray)) := (HS30.out).row 2 rfl (clCells y)
        refine hK.out _ _ (HS31.out.pick [4] rfl) (fun hHeld => ?_)
        clear hK K
        generalize (w31.setRow B2 (clCells y).toArray) = w32 at *
        try simp only [Act.put, List.setIfInBounds_toArray, List.set_cons_zero, List.set_cons_succ]
        refine wpAnyH_done (by kernel_rfl) ?_ _
        have HS32 : Hid (Hp w [.cd C, .ob B1 27 (pgCells p), .ob B2 24 (clCells y), .sl v31 29 6 (cs.length + 1) (((links s c cs).flatMap chCells) ++ (([chCells ⟨2, (s : Int), a, y⟩] : List (List Value)).flatMap id))] w32) := HS31.out.pull [0, 1, 2, 3] rfl (pull_nd HS31.out.nd [0, 1, 2, 3] rfl (by decide))
        clear HS31
        have HZ : Hid (Hp w [.cd C, .ob B1 27 (pgCells p), .ob B2 24 (clCells (endOf c (cs ++ [y]))), .sl v31 29 6 (cs ++ [y]).length ((links s c (cs ++ [y])).flatMap chCells)] w32) := by
          show Hp _ _ _
          rw [links_snoc s c cs a y HEA.out, endOf_append, List.length_append]
          exact HS32.out
        go_wp2_with fail
        go_roundw
        case rel => exact ⟨_, cs ++ [y], j - 1, rfl, by congr 1; have := HJp.out; omega, by rw [List.length_append]; have := HLn.out; have := HJp.out; show cs.length + 1 + _ = _; omega, fun u hu => by
          rcases List.mem_append.1 hu with hu | hu
          · exact HOk.out.rest u hu
          · rw [List.mem_singleton.1 hu]; exact HYo.out, HZ.out⟩
        case measure => simp [intOf]; have := HJp.out; omega
    · have hj0 : (j : Int) = 0 := by omega
      simp only [hj0]
      have hn : cs.length = N + 2 := by omega
      clear hj hlt HLn hj0
      have hcl9 : (cs.length : Int) ≤ 9 := by omega
      obtain ⟨g, cp, rfl, hcp, hcm⟩ := own_pos (hs.own 3 rfl) (by omega)
      have HN := Lib.hid hn
      have HCP : Hid (cs.length ≤ cp ∧ cp ≤ maxLen) := ⟨hcp, hcm⟩
      clear hcp hcm hn
      have HY := Lib.hid hs
      clear hs
      go_wp2_with (first | ((with_reducible refine wpList_load_ob 27 (.tmp 6) B1 (pgCells p) 27 HUP.out ?_ ?_ ?_ ?_ ?_); (exact rfl); (exact (HY.out).get 1 rfl); (exact rfl); (exact (info_pgc HPl.out)); simp only [Act.put, List.setIfInBounds_toArray, List.set_cons_zero, List.set_cons_succ]) | ((with_reducible refine wpList_alloc_ob 27 (pgCells (newPg 0)) ?_ ?_); (exact alloc_page); simp only [Act.put, List.setIfInBounds_toArray, List.set_cons_zero, List.set_cons_succ]) | ((with_reducible refine wpList_store_ob 27 (.tmp 12) (wr.heap.size) (pgCells p) (pgCells (newPg 0)) 27 ?_ ?_ ?_ ?_ ?_ ?_ ?_); (exact rfl); (exact rfl); (exact ((HY.out).put 27 (pgCells (newPg 0))).get 4 rfl); (exact (info_pgc HPl.out)); (exact (by rw [pgCells_len HPl.out, pgCells_len (p := (newPg 0)) rfl])); (exact (oneCell_pg _)); skip))
      have HS33 : Hid (Hp w [.cd C, .ob B1 27 (pgCells p), .ob B2 24 (clCells (endOf c cs)), .sl (.slice (some ⟨g, 0, none⟩) cs.length cp) 29 6 (cs.length) ((links s c cs).flatMap chCells), .ob (wr.heap.size) 27 (pgCells p)] ((wr.alloc (.cells (pgCells (newPg 0)).toArray 27)).setRow (wr.heap.size) (pgCells p).toArray)) := ((HY.out).put 27 (pgCells (newPg 0))).row 4 rfl (pgCells p)
      clear HY
      generalize ((wr.alloc (.cells (pgCells (newPg 0)).toArray 27)).setRow (wr.heap.size) (pgCells p).toArray) = w33 at *
      generalize wr.heap.size = B26 at *
      have hps : pgSet p s (endOf c (cs.take 0)) = p := pgSet_self HCX.out (by rw [HPl.out]; exact HS16.out)
      have HX : Hid (Hp w [.cd C, .ob B1 27 (pgCells p), .ob B2 24 (clCells (endOf c cs)), .sl (.slice (some ⟨g, 0, none⟩) cs.length cp) 29 6 cs.length ((links s c cs).flatMap chCells), .ob B26 27 (pgCells (pgSet p s (endOf c (cs.take 0))))] w33) := by show Hp _ _ _; rw [hps]; exact HS33.out
      clear hps HS33
      go_loopw [61] (fun i wr => ∃ k : Nat, k ≤ cs.length ∧ i = .int .i64 k ∧ Hp w [.cd C, .ob B1 27 (pgCells p), .ob B2 24 (clCells (endOf c cs)), .sl (.slice (some ⟨g, 0, none⟩) cs.length cp) 29 6 cs.length ((links s c cs).flatMap chCells), .ob B26 27 (pgCells (pgSet p s (endOf c (cs.take k))))] wr) (fun i _ => cs.length - (intOf i).toNat)
      case atStart => exact ⟨0, by omega, rfl, HX.out⟩
      case round =>
        obtain ⟨k, hk, rfl, hs⟩ := hrel
        clear HX
        by_cases hlt : k < cs.length
        · have hkl : (k : Int) < (cs.length : Int) := by omega
          obtain ⟨b, hb⟩ : ∃ b, cs[k] = b := ⟨_, rfl⟩
          have HG : Hid ((links s c cs)[k]? = some ⟨2, (s : Int), endOf c (cs.take k), b⟩) := by show _ = _; rw [links_get s c cs k hlt, hb]
          have HE : Hid (endOf c (cs.take (k + 1)) = b) := by show _ = _; rw [endOf_take c cs k hlt]; exact hb
          have HOb : Hid (cellOkB b = true) := HOk.out.rest b (by rw [← hb]; exact List.getElem_mem hlt)
          have HOa : Hid (cellOkB (endOf c (cs.take k)) = true) := (HOk.out.take k).endOf
          have HCO2 : Hid (chOkB ⟨2, (s : Int), endOf c (cs.take k), b⟩ = true) := (HOk.out.drop k).change HOb.out
          clear hb
          generalize endOf c (cs.take k) = a at *
          have HJ : Hid (applyR (pgSet p s a) ⟨2, (s : Int), a, b⟩ = (pgSet p s b, 0)) := apply_set HP.out.id (by rw [HPl.out]; exact HS16.out) HCO2.out
          have HGp : Hid (Good (pgSet p s a)) := pgSet_good s (HP.out.good (by omega) (by omega)) HOa.out
          have HY := Lib.hid hs
          clear hs
          go_wp2_with (first | ((with_reducible refine wpList_load_at 29 (.tmp 63) g ((k * 6)) (chCells ⟨2, (s : Int), a, b⟩) HU.out ?_ ?_ ?_ ?_ ?_); (exact rfl); (exact chRow_at (chRow_own ((HY.out).own 3 rfl) rfl) HG.out); (exact rfl); (exact info_ch); simp only [Act.put, List.setIfInBounds_toArray, List.set_cons_zero, List.set_cons_succ]) | ((with_reducible refine wpList_alloc_ob 29 (chCells chNil) ?_ ?_); (exact alloc_ch); simp only [Act.put, List.setIfInBounds_toArray, List.set_cons_zero, List.set_cons_succ]) | ((with_reducible refine wpList_store_ob 29 (.tmp 14) (wr.heap.size) (chCells ⟨2, (s : Int), a, b⟩) (chCells chNil) 29 ?_ ?_ ?_ ?_ ?_ ?_ ?_); (exact rfl); (exact rfl); (exact ((HY.out).put 29 (chCells chNil)).get 5 rfl); (exact info_ch); (exact rfl); (exact (oneCell_ch _)); skip) | ((with_reducible refine wpList_load_ob 27 (.tmp 12) B26 (pgCells (pgSet p s a)) 27 HUP.out ?_ ?_ ?_ ?_ ?_); (exact rfl); (exact (((HY.out).put 29 (chCells chNil)).row 5 rfl (chCells ⟨2, (s : Int), a, b⟩)).get 4 rfl); (exact rfl); (exact (info_pgc (pgSet_len s a HPl.out))); simp only [Act.put, List.setIfInBounds_toArray, List.set_cons_zero, List.set_cons_succ]) | ((with_reducible refine wpList_load_ob 29 (.tmp 14) (wr.heap.size) (chCells ⟨2, (s : Int), a, b⟩) 29 HU.out ?_ ?_ ?_ ?_ ?_); (exact rfl); (exact (((HY.out).put 29 (chCells chNil)).row 5 rfl (chCells ⟨2, (s : Int), a, b⟩)).get 5 rfl); (exact rfl); (exact info_ch); simp only [Act.put, List.setIfInBounds_toArray, List.set_cons_zero, List.set_cons_succ]))
          refine (apply_at HJ.out HGp.out (chOk_good HCO2.out) _).mono ?_
          rintro e w34 ⟨rfl, hb⟩
          have HS34 : Hid (Hp w [.cd C, .ob B1 27 (pgCells p), .ob B2 24 (clCells (endOf c cs)), .sl (.slice (some ⟨g, 0, none⟩) cs.length cp) 29 6 (cs.length) ((links s c cs).flatMap chCells), .ob B26 27 (pgCells (pgSet p s a)), .ob (wr.heap.size) 29 (chCells ⟨2, (s : Int), a, b⟩)] w34) := (((HY.out).put 29 (chCells chNil)).row 5 rfl (chCells ⟨2, (s : Int), a, b⟩)).calls hb
          clear hb
          clear HY
          generalize wr.heap.size = B27 at *
          go_wp2_with (first | ((with_reducible refine wpList_alloc_ob 27 (pgCells (newPg 0)) ?_ ?_); (exact alloc_page); simp only [Act.put, List.setIfInBounds_toArray, List.set_cons_zero, List.set_cons_succ]) | ((with_reducible refine wpList_store_ob 27 (.tmp 15) (w34.heap.size) (pgCells (pgSet p s b)) (pgCells (newPg 0)) 27 ?_ ?_ ?_ ?_ ?_ ?_ ?_); (exact rfl); (exact rfl); (exact ((HS34.out).put 27 (pgCells (newPg 0))).get 6 rfl); (exact (info_pgc (pgSet_len s b HPl.out))); (exact (by rw [pgCells_len (pgSet_len s b HPl.out), pgCells_len (p := (newPg 0)) rfl])); (exact (oneCell_pg _)); skip) | ((with_reducible refine wpList_load_ob 27 (.tmp 15) (w34.heap.size) (pgCells (pgSet p s b)) 27 HUP.out ?_ ?_ ?_ ?_ ?_); (exact rfl); (exact (((HS34.out).put 27 (pgCells (newPg 0))).row 6 rfl (pgCells (pgSet p s b))).get 6 rfl); (exact rfl); (exact (info_pgc (pgSet_len s b HPl.out))); simp only [Act.put, List.setIfInBounds_toArray, List.set_cons_zero, List.set_cons_succ]) | ((with_reducible refine wpList_store_ob 27 (.tmp 12) B26 (pgCells (pgSet p s b)) (pgCells (pgSet p s a)) 27 ?_ ?_ ?_ ?_ ?_ ?_ ?_); (exact rfl); (exact rfl); (exact (((HS34.out).put 27 (pgCells (newPg 0))).row 6 rfl (pgCells (pgSet p s b))).get 4 rfl); (exact (info_pgc (pgSet_len s b HPl.out))); (exact (by rw [pgCells_len (pgSet_len s b HPl.out), pgCells_len (p := (pgSet p s a)) (pgSet_len s a HPl.out)])); (exact (oneCell_pg _)); skip))
          have HS35 : Hid (Hp w [.cd C, .ob B1 27 (pgCells p), .ob B2 24 (clCells (endOf c cs)), .sl (.slice (some ⟨g, 0, none⟩) cs.length cp) 29 6 (cs.length) ((links s c cs).flatMap chCells), .ob B26 27 (pgCells (pgSet p s b)), .ob B27 29 (chCells ⟨2, (s : Int), a, b⟩), .ob (w34.heap.size) 27 (pgCells (pgSet p s b))] (((w34.alloc (.cells (pgCells (newPg 0)).toArray 27)).setRow (w34.heap.size) (pgCells (pgSet p s b)).toArray).setRow B26 (pgCells (pgSet p s b)).toArray)) := (((HS34.out).put 27 (pgCells (newPg 0))).row 6 rfl (pgCells (pgSet p s b))).row 4 rfl (pgCells (pgSet p s b))
          clear HS34
          generalize (((w34.alloc (.cells (pgCells (newPg 0)).toArray 27)).setRow (w34.heap.size) (pgCells (pgSet p s b)).toArray).setRow B26 (pgCells (pgSet p s b)).toArray) = w35 at *
          generalize w34.heap.size = B28 at *
          have HS36 : Hid (Hp w [.cd C, .ob B1 27 (pgCells p), .ob B2 24 (clCells (endOf c cs)), .sl (.slice (some ⟨g, 0, none⟩) cs.length cp) 29 6 (cs.length) ((links s c cs).flatMap chCells), .ob B26 27 (pgCells (pgSet p s b))] w35) := HS35.out.pull [0, 1, 2, 3, 4] rfl (pull_nd HS35.out.nd [0, 1, 2, 3, 4] rfl (by decide))
          clear HS35
          have HZ : Hid (Hp w [.cd C, .ob B1 27 (pgCells p), .ob B2 24 (clCells (endOf c cs)), .sl (.slice (some ⟨g, 0, none⟩) cs.length cp) 29 6 cs.length ((links s c cs).flatMap chCells), .ob B26 27 (pgCells (pgSet p s (endOf c (cs.take (k + 1)))))] w35) := by show Hp _ _ _; rw [HE.out]; exact HS36.out
          go_roundw
          case rel => exact ⟨k + 1, by omega, by go_num, HZ.out⟩
          case measure => simp [intOf]; omega
        · obtain rfl : k = cs.length := by omega
          rw [List.take_length] at hs
          have HY := Lib.hid hs
          clear hs
          have hn2 : (2 : Int) ≤ (cs.length : Int) := by have := HN.out; omega
          have hct0 : 0 ≤ ct := HCt.out.1
          have hct1 : ct ≤ 255 := HCt.out.2
          have hm0 := Int.emod_nonneg ct (show (cs.length : Int) - 1 ≠ 0 by omega)
          have hm1 := Int.emod_lt_of_pos ct (show (0 : Int) < (cs.length : Int) - 1 by omega)
          obtain ⟨K, hK⟩ := Int.eq_ofNat_of_zero_le (show (0 : Int) ≤ 1 + ct % ((cs.length : Int) - 1) by omega)
          have HK : Hid (0 < K ∧ K < cs.length) := ⟨by omega, by omega⟩
          have hk0 : (0 : Int) ≤ (K : Int) := by omega
          have hkc : (K : Int) ≤ (cp : Int) := by have := HCP.out.1; omega
          have hkn : (K : Int) ≤ (cs.length : Int) := by omega
          have hnc : (cs.length : Int) ≤ (cp : Int) := by have := HCP.out.1; omega
          have hcm : cp ≤ 9223372036854775807 := by have := HCP.out.2; unfold maxLen at this; omega
          have hne : ¬ cp = K := by have := HCP.out.1; omega
          have HOkA := Lib.hid (HOk.out.take K)
          have HOkB := Lib.hid (HOk.out.drop K)
          obtain ⟨m, hm⟩ : ∃ m, endOf c (cs.take K) = m := ⟨_, rfl⟩
          have HEnd : Hid (endOf m (cs.drop K) = endOf c cs) := by show _ = _; rw [← hm, ← endOf_append, List.take_append_drop]
          have HMo : Hid (cellOkB m = true) := by show _ = _; rw [← hm]; exact HOkA.out.endOf
          rw [hm] at HOkB
          have HRa : Hid (∀ W, ChRow W g 0 (links s c cs) → ChRow W g 0 (links s c (cs.take K)) ∧ ChRow W g (K * 6) (links s m (cs.drop K))) := fun W h => by rw [← hm]; exact chRow_part h K (by have := HK.out; omega)
          have HMe : Hid (endOf c (cs.take K) = m) := hm
          obtain ⟨ec, hec⟩ : ∃ ec, endOf c cs = ec := ⟨_, rfl⟩
          have HEo : Hid (cellOkB ec = true) := by show _ = _; rw [← hec]; exact HOk.out.endOf
          rw [hec] at HEnd HY
          have HEe := Lib.hid hec
          have HA := Lib.hid (HOk.out.change HMo.out)
          have HBk : Hid (chOkB ⟨2, (s : Int), m, ec⟩ = true) := HOkB.out.change HEo.out
          have HJk := Lib.hid (HOk.out.change HEo.out)
          have HJ : Hid (joinR ⟨2, (s : Int), c, m⟩ ⟨2, (s : Int), m, ec⟩ = (⟨2, (s : Int), c, ec⟩, 0)) := join_ok HA.out HBk.out rfl rfl rfl
          have HPe : Hid (applyR p ⟨2, (s : Int), c, ec⟩ = (pgSet p s ec, 0)) := by
            show _ = _
            have := apply_set (p := p) (s := s) (a := c) (b := ec) HP.out.id (by rw [HPl.out]; exact HS16.out) HJk.out
            rw [pgSet_self HCX.out (by rw [HPl.out]; exact HS16.out)] at this
            exact this
          have HGp : Hid (Good p) := HP.out.good (by omega) (by omega)
          have HGe : Hid (Good (pgSet p s ec)) := pgSet_good s HGp.out HEo.out
          have HLe : Hid (cs.length = cs.length) := rfl
          have hKl : (cs.take K).length = K := by rw [List.length_take]; have := HK.out; omega
          have HKl := Lib.hid hKl
          have HDl : Hid ((cs.drop K).length = cs.length - K) := List.length_drop ..
          clear hec hm hKl hm0 hm1
          have e1 : ∀ W, Sem.run Try.prog (binOp .eql 29 (.agg (chCells ⟨2, (s : Int), c, ec⟩).toArray) (.agg (chCells ⟨2, (s : Int), c, ec⟩).toArray)) W = .ok (.bool true) W := fun W => by
            have := run_eql (equal_ch ⟨2, (s : Int), c, ec⟩ ⟨2, (s : Int), c, ec⟩ (chOk_good HJk.out) (chOk_good HJk.out)) W
            rw [sameV_self] at this
            exact this
          have e2 : ∀ W, Sem.run Try.prog (binOp .eql 27 (.agg (pgCells (pgSet p s ec)).toArray) (.agg (pgCells (pgSet p s ec)).toArray)) W = .ok (.bool true) W := fun W => by
            have := run_eql (equal_pg (pgSet p s ec) (pgSet p s ec) HGe.out HGe.out) W
            rw [sameV_self] at this
            exact this
          go_wp2_with fail
          refine (joined_any s c (cs.take K) K g 0 cp _ (HRa.out _ (chRow_own ((HY.out).own 3 rfl) rfl)).1 HOkA.out HKl.out HK.out.1 (by have := HK.out; have := HCP.out.1; omega) HCP.out.2).mono ?_
          rintro e w36 ⟨he, hb⟩
          have HS37 : Hid (Hp w [.cd C, .ob B1 27 (pgCells p), .ob B2 24 (clCells ec), .sl (.slice (some ⟨g, 0, none⟩) cs.length cp) 29 6 (cs.length) ((links s c cs).flatMap chCells), .ob B26 27 (pgCells (pgSet p s ec))] w36) := (HY.out).calls hb
          clear hb
          clear HY
          rw [HMe.out] at he
          subst he
          go_wp2_with (first | ((with_reducible refine wpList_alloc_ob 29 (chCells chNil) ?_ ?_); (exact alloc_ch); simp only [Act.put, List.setIfInBounds_toArray, List.set_cons_zero, List.set_cons_succ]) | ((with_reducible refine wpList_store_ob 29 (.tmp 18) (w36.heap.size) (chCells ⟨2, (s : Int), c, m⟩) (chCells chNil) 29 ?_ ?_ ?_ ?_ ?_ ?_ ?_); (exact rfl); (exact rfl); (exact ((HS37.out).put 29 (chCells chNil)).get 5 rfl); (exact info_ch); (exact rfl); (exact (oneCell_ch _)); skip))
          refine (joined_any s m (cs.drop K) (cs.length - K) g (K * 6) (cp - K) _ (HRa.out _ (chRow_own ((((HS37.out).put 29 (chCells chNil)).row 5 rfl (chCells ⟨2, (s : Int), c, m⟩)).own 3 rfl) rfl)).2 HOkB.out HDl.out (by have := HK.out; omega) (by have := HCP.out.1; omega) (by have := HCP.out.2; omega)).mono ?_
          rintro e w37 ⟨he, hb⟩
          have HS38 : Hid (Hp w [.cd C, .ob B1 27 (pgCells p), .ob B2 24 (clCells ec), .sl (.slice (some ⟨g, 0, none⟩) cs.length cp) 29 6 (cs.length) ((links s c cs).flatMap chCells), .ob B26 27 (pgCells (pgSet p s ec)), .ob (w36.heap.size) 29 (chCells ⟨2, (s : Int), c, m⟩)] w37) := (((HS37.out).put 29 (chCells chNil)).row 5 rfl (chCells ⟨2, (s : Int), c, m⟩)).calls hb
          clear hb
          clear HS37
          generalize w36.heap.size = B29 at *
          rw [HEnd.out] at he
          subst he
          go_wp2_with (first | ((with_reducible refine wpList_alloc_ob 29 (chCells chNil) ?_ ?_); (exact alloc_ch); simp only [Act.put, List.setIfInBounds_toArray, List.set_cons_zero, List.set_cons_succ]) | ((with_reducible refine wpList_store_ob 29 (.tmp 20) (w37.heap.size) (chCells ⟨2, (s : Int), m, ec⟩) (chCells chNil) 29 ?_ ?_ ?_ ?_ ?_ ?_ ?_); (exact rfl); (exact rfl); (exact ((HS38.out).put 29 (chCells chNil)).get 6 rfl); (exact info_ch); (exact rfl); (exact (oneCell_ch _)); skip) | ((with_reducible refine wpList_load_ob 29 (.tmp 18) B29 (chCells ⟨2, (s : Int), c, m⟩) 29 HU.out ?_ ?_ ?_ ?_ ?_); (exact rfl); (exact (((HS38.out).put 29 (chCells chNil)).row 6 rfl (chCells ⟨2, (s : Int), m, ec⟩)).get 5 rfl); (exact rfl); (exact info_ch); simp only [Act.put, List.setIfInBounds_toArray, List.set_cons_zero, List.set_cons_succ]) | ((with_reducible refine wpList_load_ob 29 (.tmp 20) (w37.heap.size) (chCells ⟨2, (s : Int), m, ec⟩) 29 HU.out ?_ ?_ ?_ ?_ ?_); (exact rfl); (exact (((HS38.out).put 29 (chCells chNil)).row 6 rfl (chCells ⟨2, (s : Int), m, ec⟩)).get 6 rfl); (exact rfl); (exact info_ch); simp only [Act.put, List.setIfInBounds_toArray, List.set_cons_zero, List.set_cons_succ]))
          refine (join_at HJ.out (chOk_good HA.out) (chOk_good HBk.out) _).mono ?_
          rintro e w38 ⟨rfl, hb⟩
          have HS39 : Hid (Hp w [.cd C, .ob B1 27 (pgCells p), .ob B2 24 (clCells ec), .sl (.slice (some ⟨g, 0, none⟩) cs.length cp) 29 6 (cs.length) ((links s c cs).flatMap chCells), .ob B26 27 (pgCells (pgSet p s ec)), .ob B29 29 (chCells ⟨2, (s : Int), c, m⟩), .ob (w37.heap.size) 29 (chCells ⟨2, (s : Int), m, ec⟩)] w38) := (((HS38.out).put 29 (chCells chNil)).row 6 rfl (chCells ⟨2, (s : Int), m, ec⟩)).calls hb
          clear hb
          clear HS38
          generalize w37.heap.size = B30 at *
          go_wp2_with (first | ((with_reducible refine wpList_alloc_ob 29 (chCells chNil) ?_ ?_); (exact alloc_ch); simp only [Act.put, List.setIfInBounds_toArray, List.set_cons_zero, List.set_cons_succ]) | ((with_reducible refine wpList_store_ob 29 (.tmp 22) (w38.heap.size) (chCells ⟨2, (s : Int), c, ec⟩) (chCells chNil) 29 ?_ ?_ ?_ ?_ ?_ ?_ ?_); (exact rfl); (exact rfl); (exact ((HS39.out).put 29 (chCells chNil)).get 7 rfl); (exact info_ch); (exact rfl); (exact (oneCell_ch _)); skip))
          refine (joined_any s c cs cs.length g 0 cp _ (chRow_own ((((HS39.out).put 29 (chCells chNil)).row 7 rfl (chCells ⟨2, (s : Int), c, ec⟩)).own 3 rfl) rfl) HOk.out rfl (by have := HK.out; omega) HCP.out.1 HCP.out.2).mono ?_
          rintro e w39 ⟨he, hb⟩
          have HS40 : Hid (Hp w [.cd C, .ob B1 27 (pgCells p), .ob B2 24 (clCells ec), .sl (.slice (some ⟨g, 0, none⟩) cs.length cp) 29 6 (cs.length) ((links s c cs).flatMap chCells), .ob B26 27 (pgCells (pgSet p s ec)), .ob B29 29 (chCells ⟨2, (s : Int), c, m⟩), .ob B30 29 (chCells ⟨2, (s : Int), m, ec⟩), .ob (w38.heap.size) 29 (chCells ⟨2, (s : Int), c, ec⟩)] w39) := (((HS39.out).put 29 (chCells chNil)).row 7 rfl (chCells ⟨2, (s : Int), c, ec⟩)).calls hb
          clear hb
          clear HS39
          generalize w38.heap.size = B31 at *
          rw [HEe.out] at he
          subst he
          go_wp2_with (first | ((with_reducible refine wpList_alloc_ob 29 (chCells chNil) ?_ ?_); (exact alloc_ch); simp only [Act.put, List.setIfInBounds_toArray, List.set_cons_zero, List.set_cons_succ]) | ((with_reducible refine wpList_store_ob 29 (.tmp 24) (w39.heap.size) (chCells ⟨2, (s : Int), c, ec⟩) (chCells chNil) 29 ?_ ?_ ?_ ?_ ?_ ?_ ?_); (exact rfl); (exact rfl); (exact ((HS40.out).put 29 (chCells chNil)).get 8 rfl); (exact info_ch); (exact rfl); (exact (oneCell_ch _)); skip) | ((with_reducible refine wpList_load_ob 27 (.tmp 6) B1 (pgCells p) 27 HUP.out ?_ ?_ ?_ ?_ ?_); (exact rfl); (exact (((HS40.out).put 29 (chCells chNil)).row 8 rfl (chCells ⟨2, (s : Int), c, ec⟩)).get 1 rfl); (exact rfl); (exact (info_pgc HPl.out)); simp only [Act.put, List.setIfInBounds_toArray, List.set_cons_zero, List.set_cons_succ]) | ((with_reducible refine wpList_load_ob 29 (.tmp 22) B31 (chCells ⟨2, (s : Int), c, ec⟩) 29 HU.out ?_ ?_ ?_ ?_ ?_); (exact rfl); (exact (((HS40.out).put 29 (chCells chNil)).row 8 rfl (chCells ⟨2, (s : Int), c, ec⟩)).get 7 rfl); (exact rfl); (exact info_ch); simp only [Act.put, List.setIfInBounds_toArray, List.set_cons_zero, List.set_cons_succ]))
          refine (apply_at HPe.out HGp.out (chOk_good HJk.out) _).mono ?_
          rintro e w40 ⟨rfl, hb⟩
          have HS41 : Hid (Hp w [.cd C, .ob B1 27 (pgCells p), .ob B2 24 (clCells ec), .sl (.slice (some ⟨g, 0, none⟩) cs.length cp) 29 6 (cs.length) ((links s c cs).flatMap chCells), .ob B26 27 (pgCells (pgSet p s ec)), .ob B29 29 (chCells ⟨2, (s : Int), c, m⟩), .ob B30 29 (chCells ⟨2, (s : Int), m, ec⟩), .ob B31 29 (chCells ⟨2, (s : Int), c, ec⟩), .ob (w39.heap.size) 29 (chCells ⟨2, (s : Int), c, ec⟩)] w40) := (((HS40.out).put 29 (chCells chNil)).row 8 rfl (chCells ⟨2, (s : Int), c, ec⟩)).calls hb
          clear hb
          clear HS40
          generalize w39.heap.size = B32 at *
          go_wp2_with (first | ((with_reducible refine wpList_alloc_ob 27 (pgCells (newPg 0)) ?_ ?_); (exact alloc_page); simp only [Act.put, List.setIfInBounds_toArray, List.set_cons_zero, List.set_cons_succ]) | ((with_reducible refine wpList_store_ob 27 (.tmp 26) (w40.heap.size) (pgCells (pgSet p s ec)) (pgCells (newPg 0)) 27 ?_ ?_ ?_ ?_ ?_ ?_ ?_); (exact rfl); (exact rfl); (exact ((HS41.out).put 27 (pgCells (newPg 0))).get 9 rfl); (exact (info_pgc (pgSet_len s ec HPl.out))); (exact (by rw [pgCells_len (pgSet_len s ec HPl.out), pgCells_len (p := (newPg 0)) rfl])); (exact (oneCell_pg _)); skip) | ((with_reducible refine wpList_load_ob_w 29 (.tmp 22) B31 (chCells ⟨2, (s : Int), c, ec⟩) 29 HU.out ?_ ?_ ?_ ?_ ?_ ?_); (exact rfl); (exact rfl); (exact (((HS41.out).put 27 (pgCells (newPg 0))).row 9 rfl (pgCells (pgSet p s ec))).get 7 rfl); (exact rfl); (exact info_ch); simp only [Act.put, List.setIfInBounds_toArray, List.set_cons_zero, List.set_cons_succ]) | ((with_reducible refine wpList_load_ob_w 29 (.tmp 24) B32 (chCells ⟨2, (s : Int), c, ec⟩) 29 HU.out ?_ ?_ ?_ ?_ ?_ ?_); (exact rfl); (exact rfl); (exact (((HS41.out).put 27 (pgCells (newPg 0))).row 9 rfl (pgCells (pgSet p s ec))).get 8 rfl); (exact rfl); (exact info_ch); simp only [Act.put, List.setIfInBounds_toArray, List.set_cons_zero, List.set_cons_succ]) | ((with_reducible refine wpList_load_ob_w 27 (.tmp 26) (w40.heap.size) (pgCells (pgSet p s ec)) 27 HUP.out ?_ ?_ ?_ ?_ ?_ ?_); (exact rfl); (exact rfl); (exact (((HS41.out).put 27 (pgCells (newPg 0))).row 9 rfl (pgCells (pgSet p s ec))).get 9 rfl); (exact rfl); (exact (info_pgc (pgSet_len s ec HPl.out))); simp only [Act.put, List.setIfInBounds_toArray, List.set_cons_zero, List.set_cons_succ]) | ((with_reducible refine wpList_load_ob_w 27 (.tmp 12) B26 (pgCells (pgSet p s ec)) 27 HUP.out ?_ ?_ ?_ ?_ ?_ ?_); (exact rfl); (exact rfl); (exact (((HS41.out).put 27 (pgCells (newPg 0))).row 9 rfl (pgCells (pgSet p s ec))).get 4 rfl); (exact rfl); (exact (info_pgc (pgSet_len s ec HPl.out))); simp only [Act.put, List.setIfInBounds_toArray, List.set_cons_zero, List.set_cons_succ]))
          refine (rvalid_ch _ _ (chOk_good HJk.out).before (chOk_good HJk.out).after).mono ?_
          rintro e w41 ⟨he, hb⟩
          have HS42 : Hid (Hp w [.cd C, .ob B1 27 (pgCells p), .ob B2 24 (clCells ec), .sl (.slice (some ⟨g, 0, none⟩) cs.length cp) 29 6 (cs.length) ((links s c cs).flatMap chCells), .ob B26 27 (pgCells (pgSet p s ec)), .ob B29 29 (chCells ⟨2, (s : Int), c, m⟩), .ob B30 29 (chCells ⟨2, (s : Int), m, ec⟩), .ob B31 29 (chCells ⟨2, (s : Int), c, ec⟩), .ob B32 29 (chCells ⟨2, (s : Int), c, ec⟩), .ob (w40.heap.size) 27 (pgCells (pgSet p s ec))] w41) := (((HS41.out).put 27 (pgCells (newPg 0))).row 9 rfl (pgCells (pgSet p s ec))).calls hb
          clear hb
          clear HS41
          generalize w40.heap.size = B33 at *
          rw [HJk.out] at he
          subst he
          go_wp2_with fail
          go_ret
          exact ⟨rfl, HS42.out.old⟩
