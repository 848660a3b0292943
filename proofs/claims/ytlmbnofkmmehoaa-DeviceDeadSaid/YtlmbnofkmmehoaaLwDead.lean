/- the law DeviceDead: for every input the call returns true -/
import Derived.Test.YtlmbnofkmmehoaaDvDead
import Derived.Test.YtlmbnofkmmehoaaOm2
namespace Go.Proofs.Ytlmbnofkmmehoaa
open Go.RowKit
set_option maxRecDepth 20000
set_option linter.unusedSimpArgs false
set_option linter.unusedVariables false

theorem made_blank : ∃ (L : List Value), (∀ w : World, Sem.run Try.prog (Instr.makeSlice 22 (.int .i64 256) (.int .i64 256)) w = .ok (.slice (some ⟨w.heap.size, 0, none⟩) 256 256) (w.alloc (.cells L.toArray 5))) ∧
    (∀ (w : World), Sem.run Try.prog (convert 22 9 (.slice (some ⟨w.heap.size, 0, none⟩) 256 256)) (w.alloc (.cells L.toArray 5)) = .ok (.string blankPg) (w.alloc (.cells L.toArray 5))) := by
  refine ⟨(List.replicate 256 (0 : UInt8)).map (fun b => Value.int .u8 (b.toNat : Int)), fun w => ?_, fun w => ?_⟩
  · have hmk : Sem.run Try.prog (Instr.makeSlice 22 (.int .i64 256) (.int .i64 256)) w = .ok (.slice (some ⟨w.heap.size, 0, none⟩) 256 256) (w.alloc (.cells (madeCells #[.int .u8 0] 256) 5)) :=
      run_make_row' 22 5 (.int .u8 0) 1 Try.underlying22 info_byte rfl .i64 .i64 256 (by decide) (by decide) w
    rw [made_row] at hmk
    exact hmk
  · have hR : RowIn (w.alloc (.cells ((List.replicate 256 (0 : UInt8)).map (fun b => Value.int .u8 (b.toNat : Int))).toArray 5)) w.heap.size (List.replicate 256 (0 : UInt8)) := heap_alloc_last w _
    have hc := hR.conv 256 256 (len_rep 256).symm
    have e : (⟨(List.replicate 256 (0 : UInt8)).toArray⟩ : ByteArray) = blankPg := by unfold blankPg; rw [List.toArray_replicate]
    rw [e] at hc
    exact hc
theorem build_fd (a b : Int) (W : World) : Sem.run Try.prog (Instr.build 29 #[(0, .int .i64 a), (1, .int .i64 b)]) W = .ok (.agg (fltCells ⟨a, b, 0, 0, 0, 0⟩).toArray) W := by kernel_rfl
set_option maxHeartbeats 16000000 in
theorem dead_any (x : Option Addr) (len cap : Nat) (zs : List Int) (wv : Int) (w : World) (hr : IsRow .u8 w x len cap zs) (hwv : 0 ≤ wv ∧ wv ≤ 255) :
    Calls Try.prog 7 #[.slice x len cap, .int .u8 wv] w fun e w' => e = .returned (.bool true) ∧ Below w.heap.size w w' := by
  have HR := Lib.hid hr
  clear hr
  obtain ⟨n, hn⟩ : ∃ n, n = 1 + wv.tmod 6 := ⟨_, rfl⟩
  have hn6 : 1 ≤ n ∧ n ≤ 6 := by rw [hn, Int.tmod_eq_emod_of_nonneg hwv.1]; omega
  have hna : IntKind.i64.wrap (1 + wv.tmod 6) = n := by rw [← hn]; exact IntWalk.i64_in _ (by omega)
  have hw1 : IntKind.i64.wrap wv = wv := IntWalk.i64_in _ (by omega)
  have hn1 : IntKind.i64.wrap (n + 1) = n + 1 := IntWalk.i64_in _ (by omega)
  have hn2 : IntKind.i64.wrap (n - 1) = n - 1 := IntWalk.i64_in _ (by omega)
  have HNN := Lib.hid (And.intro (And.intro hna hw1) (And.intro hn1 hn2))
  have HN6 := Lib.hid hn6
  obtain ⟨d0, d1, d2, e1, e2, e3, ok0, ok1, dd⟩ := Ded.start hn6
  have HE : Hid (newR 2 = (d0, 0) ∧ injectR d0 (fltDead n) = (d1, 0) ∧ injectR d1 (fltLostAt (n + 1)) = (d2, 0)) := ⟨e1, e2, e3⟩
  have HO : Hid (DvOk d0 ∧ DvOk d1 ∧ DvOk d2) := ⟨ok0, ok1, dd.ok⟩
  have HDd := Lib.hid dd
  have HG : Hid (GoodFlt (fltDead n) ∧ GoodFlt (fltLostAt (n + 1))) := ⟨fltDead_good hn6, fltLost_good (by omega)⟩
  obtain ⟨L0, hmk, hcv⟩ := made_blank
  have HMk := Lib.hid hmk
  have HCv := Lib.hid hcv
  clear hmk hcv hna hw1 hn1 hn2 hn hwv hn6 e1 e2 e3 ok0 ok1 dd
  obtain ⟨fs, hud⟩ := under_dv
  have HUD := Lib.hid hud
  obtain ⟨fs2, huf⟩ := under_flt
  have HUF := Lib.hid huf
  clear hud huf
  go_enter Try.func7, Try.ntmps7
  go_wp2_with fail
  refine (awake4 _).mono ?_
  rintro e w1 ⟨rfl, hb⟩
  have HS0 : Hid (Hp w [] w1) := (Hp.start w).calls hb
  clear hb
  go_wp2_with fail
  refine (new_hp 100 (by omega) HS0.out HR.out).mono ?_
  rintro e w2 ⟨rfl, hs⟩
  have HS1 : Hid (Hp w [.cd w1.heap.size] w2) := hs
  clear hs HS0 HR
  generalize w1.heap.size = C at *
  go_wp2_with fail
  refine (dv_as HE.out.1 (new_dv 2 _)).mono ?_
  rintro e w3 ⟨p0, u0, f0, R0, rfl, hrd, hin, hnew, hb⟩
  obtain ⟨ap0, cp0, rfl, _⟩ := hrd.pages
  obtain ⟨au0, cu0, rfl, _⟩ := hrd.unread
  obtain ⟨af0, cf0, rfl, _⟩ := hrd.faults
  have HDv0 := Lib.hid hrd
  have HS2 : Hid (Hp w [.cd C, .rd R0] w3) := (HS1.out).addrd hb R0 hin (fun r hr => (hnew r hr).elim .inl (fun h => absurd h List.not_mem_nil))
  clear hb hin hnew hrd
  clear HS1
  have hna := HNN.out.1.1
  have hw1 := HNN.out.1.2
  have hn1 := HNN.out.2.1
  go_wp2_with (first | ((with_reducible refine wpList_alloc_ob 27 (dvCells nilS dvNil nilS nilS) ?_ ?_); (exact alloc_dv); simp only [Act.put, List.setIfInBounds_toArray, List.set_cons_zero, List.set_cons_succ]) | ((with_reducible refine wpList_store_ob 27 (.tmp 6) (w3.heap.size) (dvCells (.slice ap0 d0.pages.length cp0) d0 (.slice au0 d0.unread.length cu0) (.slice af0 d0.faults.length cf0)) (dvCells nilS dvNil nilS nilS) 27 ?_ ?_ ?_ ?_ ?_ ?_ ?_); (exact rfl); (exact rfl); (exact ((HS2.out).put 27 (dvCells nilS dvNil nilS nilS)).get 2 rfl); (exact info_dv); (exact rfl); (exact (oneCell_dv _ _ _ _ _ _ _ _ _ _)); skip) | ((with_reducible refine wpList_load_ob 27 (.tmp 6) (w3.heap.size) (dvCells (.slice ap0 d0.pages.length cp0) d0 (.slice au0 d0.unread.length cu0) (.slice af0 d0.faults.length cf0)) 27 HUD.out ?_ ?_ ?_ ?_ ?_); (exact rfl); (exact (((HS2.out).put 27 (dvCells nilS dvNil nilS nilS)).row 2 rfl (dvCells (.slice ap0 d0.pages.length cp0) d0 (.slice au0 d0.unread.length cu0) (.slice af0 d0.faults.length cf0))).get 2 rfl); (exact rfl); (exact info_dv); simp only [Act.put, List.setIfInBounds_toArray, List.set_cons_zero, List.set_cons_succ]) | ((with_reducible refine wpList_build_v 29 (.agg (fltCells (fltDead n)).toArray) ?_ ?_); (intro W; simp only [List.map_toArray, List.map_cons, List.map_nil]; exact build_fd 6 n W); simp only [Act.put, List.setIfInBounds_toArray, List.set_cons_zero, List.set_cons_succ]))
  refine (dv_as HE.out.2.1 (inject_any (fltDead n) _ HDv0.out ((((HS2.out).put 27 (dvCells nilS dvNil nilS nilS)).row 2 rfl (dvCells (.slice ap0 d0.pages.length cp0) d0 (.slice au0 d0.unread.length cu0) (.slice af0 d0.faults.length cf0))).reads 1 rfl) HO.out.1.goodDv HG.out.1 HO.out.1.pg HO.out.1.fl)).mono ?_
  rintro e w4 ⟨p1, u1, f1, R1, rfl, hrd, hin, hnew, hb⟩
  obtain ⟨ap1, cp1, rfl, _⟩ := hrd.pages
  obtain ⟨au1, cu1, rfl, _⟩ := hrd.unread
  obtain ⟨af1, cf1, rfl, _⟩ := hrd.faults
  have HDv1 := Lib.hid hrd
  have HS3 : Hid (Hp w [.cd C, .rd R0, .ob (w3.heap.size) 27 (dvCells (.slice ap0 d0.pages.length cp0) d0 (.slice au0 d0.unread.length cu0) (.slice af0 d0.faults.length cf0)), .rd R1] w4) := (((HS2.out).put 27 (dvCells nilS dvNil nilS nilS)).row 2 rfl (dvCells (.slice ap0 d0.pages.length cp0) d0 (.slice au0 d0.unread.length cu0) (.slice af0 d0.faults.length cf0))).addrd hb R1 hin (fun r hr => (hnew r hr).elim .inl (fun h => .inr ⟨.rd R0, List.mem_of_getElem? (i := 1) rfl, List.mem_map.2 ⟨r, h, rfl⟩⟩))
  clear hb hin hnew hrd
  clear HS2
  generalize w3.heap.size = B1 at *
  go_wp2_with (first | ((with_reducible refine wpList_store_ob 27 (.tmp 6) B1 (dvCells (.slice ap1 d1.pages.length cp1) d1 (.slice au1 d1.unread.length cu1) (.slice af1 d1.faults.length cf1)) (dvCells (.slice ap0 d0.pages.length cp0) d0 (.slice au0 d0.unread.length cu0) (.slice af0 d0.faults.length cf0)) 27 ?_ ?_ ?_ ?_ ?_ ?_ ?_); (exact rfl); (exact rfl); (exact (HS3.out).get 2 rfl); (exact info_dv); (exact rfl); (exact (oneCell_dv _ _ _ _ _ _ _ _ _ _)); skip) | ((with_reducible refine wpList_load_ob 27 (.tmp 6) B1 (dvCells (.slice ap1 d1.pages.length cp1) d1 (.slice au1 d1.unread.length cu1) (.slice af1 d1.faults.length cf1)) 27 HUD.out ?_ ?_ ?_ ?_ ?_); (exact rfl); (exact ((HS3.out).row 2 rfl (dvCells (.slice ap1 d1.pages.length cp1) d1 (.slice au1 d1.unread.length cu1) (.slice af1 d1.faults.length cf1))).get 2 rfl); (exact rfl); (exact info_dv); simp only [Act.put, List.setIfInBounds_toArray, List.set_cons_zero, List.set_cons_succ]) | ((with_reducible refine wpList_build_v 29 (.agg (fltCells (fltLostAt (n + 1))).toArray) ?_ ?_); (intro W; simp only [List.map_toArray, List.map_cons, List.map_nil]; exact build_fd 1 (n + 1) W); simp only [Act.put, List.setIfInBounds_toArray, List.set_cons_zero, List.set_cons_succ]))
  refine (dv_as HE.out.2.2 (inject_any (fltLostAt (n + 1)) _ HDv1.out (((HS3.out).row 2 rfl (dvCells (.slice ap1 d1.pages.length cp1) d1 (.slice au1 d1.unread.length cu1) (.slice af1 d1.faults.length cf1))).reads 3 rfl) HO.out.2.1.goodDv HG.out.2 HO.out.2.1.pg HO.out.2.1.fl)).mono ?_
  rintro e w5 ⟨p2, u2, f2, R2, rfl, hrd, hin, hnew, hb⟩
  obtain ⟨ap2, cp2, rfl, _⟩ := hrd.pages
  obtain ⟨au2, cu2, rfl, _⟩ := hrd.unread
  obtain ⟨af2, cf2, rfl, _⟩ := hrd.faults
  have HDv2 := Lib.hid hrd
  have HS4 : Hid (Hp w [.cd C, .rd R0, .ob B1 27 (dvCells (.slice ap1 d1.pages.length cp1) d1 (.slice au1 d1.unread.length cu1) (.slice af1 d1.faults.length cf1)), .rd R1, .rd R2] w5) := ((HS3.out).row 2 rfl (dvCells (.slice ap1 d1.pages.length cp1) d1 (.slice au1 d1.unread.length cu1) (.slice af1 d1.faults.length cf1))).addrd hb R2 hin (fun r hr => (hnew r hr).elim .inl (fun h => .inr ⟨.rd R1, List.mem_of_getElem? (i := 3) rfl, List.mem_map.2 ⟨r, h, rfl⟩⟩))
  clear hb hin hnew hrd
  clear HS3
  go_wp2_with (first | ((with_reducible refine wpList_store_ob 27 (.tmp 6) B1 (dvCells (.slice ap2 d2.pages.length cp2) d2 (.slice au2 d2.unread.length cu2) (.slice af2 d2.faults.length cf2)) (dvCells (.slice ap1 d1.pages.length cp1) d1 (.slice au1 d1.unread.length cu1) (.slice af1 d1.faults.length cf1)) 27 ?_ ?_ ?_ ?_ ?_ ?_ ?_); (exact rfl); (exact rfl); (exact (HS4.out).get 2 rfl); (exact info_dv); (exact rfl); (exact (oneCell_dv _ _ _ _ _ _ _ _ _ _)); skip))
  have HS5 : Hid (Hp w [.cd C, .rd R0, .ob B1 27 (dvCells (.slice ap2 d2.pages.length cp2) d2 (.slice au2 d2.unread.length cu2) (.slice af2 d2.faults.length cf2)), .rd R1, .rd R2] (w5.setRow B1 (dvCells (.slice ap2 d2.pages.length cp2) d2 (.slice au2 d2.unread.length cu2) (.slice af2 d2.faults.length cf2)).toArray)) := (HS4.out).row 2 rfl (dvCells (.slice ap2 d2.pages.length cp2) d2 (.slice au2 d2.unread.length cu2) (.slice af2 d2.faults.length cf2))
  clear HS4
  generalize (w5.setRow B1 (dvCells (.slice ap2 d2.pages.length cp2) d2 (.slice au2 d2.unread.length cu2) (.slice af2 d2.faults.length cf2)).toArray) = w6 at *
  clear hna hw1 hn1
  have HS6 : Hid (Hp w [.cd C, .ob B1 27 (dvCells (.slice ap2 d2.pages.length cp2) d2 (.slice au2 d2.unread.length cu2) (.slice af2 d2.faults.length cf2)), .rd R2] w6) := HS5.out.pull [0, 2, 4] rfl (pull_nd HS5.out.nd [0, 2, 4] rfl (by decide))
  clear HS5
  go_loopw [11] (fun si wr => ∃ (d : Dv) (pd ud fd : Value) (Rd : List Rng) (i : Nat), si = .int .i64 i ∧ (i : Int) ≤ n ∧ Ded n i d ∧ DvRd pd ud fd d Rd ∧ Hp w [.cd C, .ob B1 27 (dvCells pd d ud fd), .rd Rd] wr) (fun si _ => n.toNat - (intOf si).toNat)
  case atStart => exact ⟨d2, _, _, _, _, 0, rfl, by have := HN6.out; omega, HDd.out, HDv2.out, HS6.out⟩
  case round =>
    clear HDv0 HDv1 HDv2 HDd HO HE HG HS6
    obtain ⟨d, pd, ud, fd, Rd, i, rfl, hin, dd, hdv, hs⟩ := hrel
    obtain ⟨apd, cpd, rfl, _⟩ := hdv.pages
    obtain ⟨aud, cud, rfl, _⟩ := hdv.unread
    obtain ⟨afd, cfd, rfl, _⟩ := hdv.faults
    have HDv := Lib.hid hdv
    have HQ := Lib.hid hs
    clear hdv hs
    by_cases hlt : (i : Int) < n
    · have hi0 : (0 : Int) ≤ (i : Int) := by omega
      have hi6 : (i : Int) < 6 := by have := HN6.out; omega
      have HI := Lib.hid hlt
      have HDd := Lib.hid dd
      clear dd hin
      go_upto_region 13 with (fail)
      clear hlt
      go_cut [12, 13] (fun s12 s13 wx => ∃ bq0, ∃ (X : Dv) (apx : Option Addr) (cpx : Nat) (aux : Option Addr) (cux : Nat) (afx : Option Addr) (cfx : Nat) (Rx : List Rng), s12 = .pointer (some ⟨bq0, 0, none⟩) ∧ s13 = .int .i64 0 ∧ (Ded n (i + 1) X ∧ DvRd (.slice apx (X).pages.length cpx) (.slice aux (X).unread.length cux) (.slice afx (X).faults.length cfx) X Rx) ∧ Hp w [.cd C, .ob B1 27 (dvCells (.slice apd d.pages.length cpd) d (.slice aud d.unread.length cud) (.slice afd d.faults.length cfd)), .rd Rd, .ob bq0 27 (dvCells (.slice apx X.pages.length cpx) X (.slice aux X.unread.length cux) (.slice afx X.faults.length cfx)), .rd Rx] wx)
      case first =>
        refine wp_region_held_drew (S := fun w' => Hold w.heap.size [.ob B1 27 (dvCells (.slice apd d.pages.length cpd) d (.slice aud d.unread.length cud) (.slice afd d.faults.length cfd))] w') (by kernel_rfl) ((HQ.out).drew.pick [1] rfl) (fun hHeld => ?_)
        refine wpAnyH_take (i := 0) (oi := { dst := some 69, op := Op.load 27 (Operand.tmp 6), type := 27, pos := "more.go:24", after := #[], guard := none }) rfl (by kernel_rfl) (by kernel_rfl) (by kernel_rfl) (fun _ _ _ h => h) (yieldsIf_load_mid (by rfl) 27 (.tmp 6) rfl B1 0 rfl (dvCells (.slice apd d.pages.length cpd) d (.slice aud d.unread.length cud) (.slice afd d.faults.length cfd)) _ (fun _ h => h.whole 0 rfl) HUD.out rfl (info_dv)) hHeld ?_
        try simp only [Act.put, List.setIfInBounds_toArray, List.set_cons_zero, List.set_cons_succ]
        refine wpAnyH_take (i := 1) (oi := { dst := some 70, op := Op.move (Operand.tmp 5), type := 32, pos := "more.go:24", after := #[], guard := none }) (v := ?q2v) rfl (by kernel_rfl) (by kernel_rfl) (by kernel_rfl) (fun _ _ _ h => h) (Or.inl ⟨by rfl, ?q2h⟩) hHeld ?q2r
        case q2h => (intro wq hSw; clear hSw; go_simp; try with_reducible rfl)
        try simp only [Act.put, List.setIfInBounds_toArray, List.set_cons_zero, List.set_cons_succ]
        refine wpAnyH_take (i := 3) (oi := { dst := some 72, op := Op.move (Operand.tmp 5), type := 32, pos := "more.go:24", after := #[], guard := none }) (v := ?q3v) rfl (by kernel_rfl) (by kernel_rfl) (by kernel_rfl) (fun _ _ _ h => h) (Or.inl ⟨by rfl, ?q3h⟩) hHeld ?q3r
        case q3h => (intro wq hSw; clear hSw; go_simp; try with_reducible rfl)
        try simp only [Act.put, List.setIfInBounds_toArray, List.set_cons_zero, List.set_cons_succ]
        refine wpAnyH_ready (rs := [2, 9]) (by kernel_rfl) (by simp) ?_
        refine AllReadyH.cons (o := { dst := some 71, op := Op.call { callee := Callee.value (Operand.func 17), args := #[Operand.tmp 70, Operand.const (Value.int IntKind.i64 2)], argTypes := #[32, 3] }, type := 3, pos := "more.go:24", after := #[{ on := 1, ground := Ground.data }], guard := none }) rfl (fun K hK => ?_) (AllReadyH.cons (o := { dst := some 12, op := Op.alloc 27, type := 0, pos := "more.go:24", after := #[], guard := none }) rfl (fun K hK => ?_) (AllReadyH.nil))
        · go_simp
          go_wp2_with (go_at_call 17; refine (next_any C 2 _ (((HQ.out).drew).codes 0 rfl) (by omega)).mono ?_; rintro e w21 ⟨qn, rfl, q0, q1, hb, hc⟩)
          have HS21 : Hid (Hp w [.cd C, .ob B1 27 (dvCells (.slice apd d.pages.length cpd) d (.slice aud d.unread.length cud) (.slice afd d.faults.length cfd)), .rd Rd] w21) := ((HQ.out).drew).draws 0 rfl hb hc
          refine hK.out _ _ (HS21.out.pick [1] rfl) (fun hHeld => ?_)
          clear hK K hb hc
          obtain ⟨q, rfl⟩ := Int.eq_ofNat_of_zero_le q0
          have HQ2 : Hid (q < 2) := (show q < 2 by omega)
          clear q0 q1
          try simp only [Act.put, List.setIfInBounds_toArray, List.set_cons_zero, List.set_cons_succ]
          refine wpAnyH_ready (rs := [4, 9]) (by kernel_rfl) (by simp) ?_
          refine AllReadyH.cons (o := { dst := some 73, op := Op.call { callee := Callee.value (Operand.func 18), args := #[Operand.tmp 72], argTypes := #[32] }, type := 9, pos := "more.go:24", after := #[{ on := 3, ground := Ground.data }, { on := 2, ground := Ground.chain }], guard := none }) rfl (fun K hK => ?_) (AllReadyH.cons (o := { dst := some 12, op := Op.alloc 27, type := 0, pos := "more.go:24", after := #[], guard := none }) rfl (fun K hK => ?_) (AllReadyH.nil))
          · go_simp
            go_wp2_with (go_at_call 18; refine (bytes_any C _ ((HS21.out).codes 0 rfl)).mono ?_; rintro e w22 ⟨s, rfl, hs2, hb, hc⟩)
            have HS22 : Hid (Hp w [.cd C, .ob B1 27 (dvCells (.slice apd d.pages.length cpd) d (.slice aud d.unread.length cud) (.slice afd d.faults.length cfd)), .rd Rd] w22) := (HS21.out).draws 0 rfl hb hc
            refine hK.out _ _ (HS22.out.pick [1] rfl) (fun hHeld => ?_)
            clear hK K hb hc
            have HSz := Lib.hid hs2
            obtain ⟨X, eX, oX⟩ := HDd.out.step HI.out HQ2.out hs2
            have HEX := Lib.hid eX
            have HOX := Lib.hid oX
            have HSm : Hid (s.size ≤ maxLen) := by show _ ≤ _; rw [HSz.out]; decide
            clear eX oX hs2
            try simp only [Act.put, List.setIfInBounds_toArray, List.set_cons_zero, List.set_cons_succ]
            refine wpAnyH_ready (rs := [5, 9]) (by kernel_rfl) (by simp) ?_
            refine AllReadyH.cons (o := { dst := some 74, op := Op.call { callee := Callee.value (Operand.func 20), args := #[Operand.tmp 69, Operand.tmp 71, Operand.tmp 73], argTypes := #[27, 3, 9] }, type := 36, pos := "more.go:24", after := #[{ on := 0, ground := Ground.data }, { on := 2, ground := Ground.data }, { on := 4, ground := Ground.data }, { on := 4, ground := Ground.chain }], guard := none }) rfl (fun K hK => ?_) (AllReadyH.cons (o := { dst := some 12, op := Op.alloc 27, type := 0, pos := "more.go:24", after := #[], guard := none }) rfl (fun K hK => ?_) (AllReadyH.nil))
            · go_simp
              go_wp2_with (go_at_call 20; refine (dv_as HEX.out (write_any q s _ HDv.out ((HS22.out).reads 2 rfl) HDd.out.ok.goodDv HSm.out HDd.out.ok.pg HDd.out.ok.fl)).mono ?_; rintro e w23 ⟨px, ux, fx, Rx, rfl, hrd, hin, hnew, hb⟩)
              obtain ⟨apx, cpx, rfl, _⟩ := hrd.pages
              obtain ⟨aux, cux, rfl, _⟩ := hrd.unread
              obtain ⟨afx, cfx, rfl, _⟩ := hrd.faults
              have HDvx := Lib.hid hrd
              have HS23 : Hid (Hp w [.cd C, .ob B1 27 (dvCells (.slice apd d.pages.length cpd) d (.slice aud d.unread.length cud) (.slice afd d.faults.length cfd)), .rd Rd, .rd Rx] w23) := (HS22.out).addrd hb Rx hin (fun r hr => (hnew r hr).elim .inl (fun h => .inr ⟨.rd Rd, List.mem_of_getElem? (i := 2) rfl, List.mem_map.2 ⟨r, h, rfl⟩⟩))
              refine hK.out _ _ (HS23.out.pick [1] rfl) (fun hHeld => ?_)
              clear hK K hb hin hnew hrd
              try simp only [Act.put, List.setIfInBounds_toArray, List.set_cons_zero, List.set_cons_succ]
              refine wpAnyH_take (i := 6) (oi := { dst := some 68, op := Op.move (Operand.tmp 74), type := 36, pos := "more.go:24", after := #[{ on := 5, ground := Ground.data }], guard := none }) (v := ?q4v) rfl (by kernel_rfl) (by kernel_rfl) (by kernel_rfl) (fun _ _ _ h => h) (Or.inl ⟨by rfl, ?q4h⟩) hHeld ?q4r
              case q4h => (intro wq hSw; clear hSw; go_simp; try with_reducible rfl)
              try simp only [Act.put, List.setIfInBounds_toArray, List.set_cons_zero, List.set_cons_succ]
              refine wpAnyH_take (i := 7) (oi := { dst := some 75, op := Op.extract (Operand.tmp 68) 0, type := 27, pos := "more.go:24", after := #[{ on := 6, ground := Ground.data }], guard := none }) (v := ?q5v) rfl (by kernel_rfl) (by kernel_rfl) (by kernel_rfl) (fun _ _ _ h => h) (Or.inl ⟨by rfl, ?q5h⟩) hHeld ?q5r
              case q5h => (intro wq hSw; clear hSw; go_simp; try with_reducible rfl)
              try simp only [Act.put, List.setIfInBounds_toArray, List.set_cons_zero, List.set_cons_succ]
              refine wpAnyH_take (i := 8) (oi := { dst := some 76, op := Op.extract (Operand.tmp 68) 1, type := 35, pos := "more.go:24", after := #[{ on := 6, ground := Ground.data }, { on := 10, ground := Ground.gcOnly Departure.lateStores }], guard := none }) (v := ?q6v) rfl (by kernel_rfl) (by kernel_rfl) (by kernel_rfl) (fun _ _ _ h => h) (Or.inl ⟨by rfl, ?q6h⟩) hHeld ?q6r
              case q6h => (intro wq hSw; clear hSw; go_simp; try with_reducible rfl)
              try simp only [Act.put, List.setIfInBounds_toArray, List.set_cons_zero, List.set_cons_succ]
              refine wpAnyH_ready (rs := [9]) (by kernel_rfl) (by simp) ?_
              refine AllReadyH.cons (o := { dst := some 12, op := Op.alloc 27, type := 0, pos := "more.go:24", after := #[], guard := none }) rfl (fun K hK => ?_) (AllReadyH.nil)
              rw [if_pos (by rfl)]
              refine wp_alloc_ob 27 (dvCells nilS dvNil nilS nilS) rfl alloc_dv ?_
              have HS24 : Hid (Hp w [.cd C, .ob B1 27 (dvCells (.slice apd d.pages.length cpd) d (.slice aud d.unread.length cud) (.slice afd d.faults.length cfd)), .rd Rd, .rd Rx, .ob (w23.heap.size) 27 (dvCells nilS dvNil nilS nilS)] (w23.alloc (.cells (dvCells nilS dvNil nilS nilS).toArray 27))) := (HS23.out).put 27 (dvCells nilS dvNil nilS nilS)
              refine hK.out _ _ (HS24.out.pick [1] rfl) (fun hHeld => ?_)
              clear hK K
              generalize (w23.alloc (.cells (dvCells nilS dvNil nilS nilS).toArray 27)) = w24 at *
              generalize w23.heap.size = B2 at *
              try simp only [Act.put, List.setIfInBounds_toArray, List.set_cons_zero, List.set_cons_succ]
              refine wpAnyH_ready (rs := [10]) (by kernel_rfl) (by simp) ?_
              refine AllReadyH.cons (o := { dst := none, op := Op.store 27 (Operand.tmp 12) (Operand.tmp 75), type := 0, pos := "more.go:24", after := #[{ on := 9, ground := Ground.data }, { on := 7, ground := Ground.data }, { on := 5, ground := Ground.chain }, { on := 0, ground := Ground.phase }, { on := 1, ground := Ground.phase }, { on := 2, ground := Ground.phase }, { on := 3, ground := Ground.phase }, { on := 4, ground := Ground.phase }, { on := 5, ground := Ground.phase }, { on := 6, ground := Ground.phase }, { on := 7, ground := Ground.phase }, { on := 8, ground := Ground.textOnly Departure.lateStores }, { on := 9, ground := Ground.phase }], guard := none }) rfl (fun K hK => ?_) (AllReadyH.nil)
              rw [if_pos (by rfl)]
              refine wp_store_ob 27 (.tmp 12) (.tmp 75) B2 (dvCells (.slice apx X.pages.length cpx) X (.slice aux X.unread.length cux) (.slice afx X.faults.length cfx)) (dvCells nilS dvNil nilS nilS) 27 rfl rfl rfl rfl ((HS24.out).get 4 rfl) (info_dv) (rfl) ((oneCell_dv _ _ _ _ _ _ _ _ _ _)) ?_
              have HS25 : Hid (Hp w [.cd C, .ob B1 27 (dvCells (.slice apd d.pages.length cpd) d (.slice aud d.unread.length cud) (.slice afd d.faults.length cfd)), .rd Rd, .rd Rx, .ob B2 27 (dvCells (.slice apx X.pages.length cpx) X (.slice aux X.unread.length cux) (.slice afx X.faults.length cfx))] (w24.setRow B2 (dvCells (.slice apx X.pages.length cpx) X (.slice aux X.unread.length cux) (.slice afx X.faults.length cfx)).toArray)) := (HS24.out).row 4 rfl (dvCells (.slice apx X.pages.length cpx) X (.slice aux X.unread.length cux) (.slice afx X.faults.length cfx))
              refine hK.out _ _ (HS25.out.pick [1] rfl) (fun hHeld => ?_)
              clear hK K
              generalize (w24.setRow B2 (dvCells (.slice apx X.pages.length cpx) X (.slice aux X.unread.length cux) (.slice afx X.faults.length cfx)).toArray) = w25 at *
              try simp only [Act.put, List.setIfInBounds_toArray, List.set_cons_zero, List.set_cons_succ]
              refine wpAnyH_take (i := 11) (oi := { dst := some 13, op := Op.assign (Operand.tmp 76), type := 35, pos := "more.go:24", after := #[{ on := 8, ground := Ground.data }, { on := 10, ground := Ground.chain }, { on := 0, ground := Ground.phase }, { on := 1, ground := Ground.phase }, { on := 2, ground := Ground.phase }, { on := 3, ground := Ground.phase }, { on := 4, ground := Ground.phase }, { on := 5, ground := Ground.phase }, { on := 6, ground := Ground.phase }, { on := 7, ground := Ground.phase }, { on := 8, ground := Ground.phase }, { on := 9, ground := Ground.phase }, { on := 10, ground := Ground.phase }], guard := none }) (v := ?q7v) rfl (by kernel_rfl) (by kernel_rfl) (by kernel_rfl) (fun _ _ _ h => h) (Or.inl ⟨by rfl, ?q7h⟩) hHeld ?q7r
              case q7h => (intro wq hSw; clear hSw; go_simp; try with_reducible rfl)
              try simp only [Act.put, List.setIfInBounds_toArray, List.set_cons_zero, List.set_cons_succ]
              refine wpAnyH_done (by kernel_rfl) ?_ _
              have HS26 : Hid (Hp w [.cd C, .ob B1 27 (dvCells (.slice apd d.pages.length cpd) d (.slice aud d.unread.length cud) (.slice afd d.faults.length cfd)), .rd Rd, .ob B2 27 (dvCells (.slice apx X.pages.length cpx) X (.slice aux X.unread.length cux) (.slice afx X.faults.length cfx)), .rd Rx] w25) := HS25.out.pull [0, 1, 2, 4, 3] rfl (pull_nd HS25.out.nd [0, 1, 2, 4, 3] rfl (by decide))
              clear HS25
              go_wp2_with fail
              go_meet
              exact ⟨B2, X, apx, cpx, aux, cux, afx, cfx, Rx, rfl, rfl, ⟨HOX.out, HDvx.out⟩, HS26.out⟩
            · rw [if_pos (by rfl)]
              refine wp_alloc_ob 27 (dvCells nilS dvNil nilS nilS) rfl alloc_dv ?_
              have HS23 : Hid (Hp w [.cd C, .ob B1 27 (dvCells (.slice apd d.pages.length cpd) d (.slice aud d.unread.length cud) (.slice afd d.faults.length cfd)), .rd Rd, .ob (w22.heap.size) 27 (dvCells nilS dvNil nilS nilS)] (w22.alloc (.cells (dvCells nilS dvNil nilS nilS).toArray 27))) := (HS22.out).put 27 (dvCells nilS dvNil nilS nilS)
              refine hK.out _ _ (HS23.out.pick [1] rfl) (fun hHeld => ?_)
              clear hK K
              generalize (w22.alloc (.cells (dvCells nilS dvNil nilS nilS).toArray 27)) = w23 at *
              generalize w22.heap.size = B2 at *
              try simp only [Act.put, List.setIfInBounds_toArray, List.set_cons_zero, List.set_cons_succ]
              refine wpAnyH_ready (rs := [5]) (by kernel_rfl) (by simp) ?_
              refine AllReadyH.cons (o := { dst := some 74, op := Op.call { callee := Callee.value (Operand.func 20), args := #[Operand.tmp 69, Operand.tmp 71, Operand.tmp 73], argTypes := #[27, 3, 9] }, type := 36, pos := "more.go:24", after := #[{ on := 0, ground := Ground.data }, { on := 2, ground := Ground.data }, { on := 4, ground := Ground.data }, { on := 4, ground := Ground.chain }], guard := none }) rfl (fun K hK => ?_) (AllReadyH.nil)
              go_simp
              go_wp2_with (go_at_call 20; refine (dv_as HEX.out (write_any q s _ HDv.out ((HS23.out).reads 2 rfl) HDd.out.ok.goodDv HSm.out HDd.out.ok.pg HDd.out.ok.fl)).mono ?_; rintro e w24 ⟨px, ux, fx, Rx, rfl, hrd, hin, hnew, hb⟩)
              obtain ⟨apx, cpx, rfl, _⟩ := hrd.pages
              obtain ⟨aux, cux, rfl, _⟩ := hrd.unread
              obtain ⟨afx, cfx, rfl, _⟩ := hrd.faults
              have HDvx := Lib.hid hrd
              have HS24 : Hid (Hp w [.cd C, .ob B1 27 (dvCells (.slice apd d.pages.length cpd) d (.slice aud d.unread.length cud) (.slice afd d.faults.length cfd)), .rd Rd, .ob B2 27 (dvCells nilS dvNil nilS nilS), .rd Rx] w24) := (HS23.out).addrd hb Rx hin (fun r hr => (hnew r hr).elim .inl (fun h => .inr ⟨.rd Rd, List.mem_of_getElem? (i := 2) rfl, List.mem_map.2 ⟨r, h, rfl⟩⟩))
              refine hK.out _ _ (HS24.out.pick [1] rfl) (fun hHeld => ?_)
              clear hK K hb hin hnew hrd
              try simp only [Act.put, List.setIfInBounds_toArray, List.set_cons_zero, List.set_cons_succ]
              refine wpAnyH_take (i := 6) (oi := { dst := some 68, op := Op.move (Operand.tmp 74), type := 36, pos := "more.go:24", after := #[{ on := 5, ground := Ground.data }], guard := none }) (v := ?q8v) rfl (by kernel_rfl) (by kernel_rfl) (by kernel_rfl) (fun _ _ _ h => h) (Or.inl ⟨by rfl, ?q8h⟩) hHeld ?q8r
              case q8h => (intro wq hSw; clear hSw; go_simp; try with_reducible rfl)
              try simp only [Act.put, List.setIfInBounds_toArray, List.set_cons_zero, List.set_cons_succ]
              refine wpAnyH_take (i := 7) (oi := { dst := some 75, op := Op.extract (Operand.tmp 68) 0, type := 27, pos := "more.go:24", after := #[{ on := 6, ground := Ground.data }], guard := none }) (v := ?q9v) rfl (by kernel_rfl) (by kernel_rfl) (by kernel_rfl) (fun _ _ _ h => h) (Or.inl ⟨by rfl, ?q9h⟩) hHeld ?q9r
              case q9h => (intro wq hSw; clear hSw; go_simp; try with_reducible rfl)
              try simp only [Act.put, List.setIfInBounds_toArray, List.set_cons_zero, List.set_cons_succ]
              refine wpAnyH_take (i := 8) (oi := { dst := some 76, op := Op.extract (Operand.tmp 68) 1, type := 35, pos := "more.go:24", after := #[{ on := 6, ground := Ground.data }, { on := 10, ground := Ground.gcOnly Departure.lateStores }], guard := none }) (v := ?q10v) rfl (by kernel_rfl) (by kernel_rfl) (by kernel_rfl) (fun _ _ _ h => h) (Or.inl ⟨by rfl, ?q10h⟩) hHeld ?q10r
              case q10h => (intro wq hSw; clear hSw; go_simp; try with_reducible rfl)
              try simp only [Act.put, List.setIfInBounds_toArray, List.set_cons_zero, List.set_cons_succ]
              refine wpAnyH_ready (rs := [10]) (by kernel_rfl) (by simp) ?_
              refine AllReadyH.cons (o := { dst := none, op := Op.store 27 (Operand.tmp 12) (Operand.tmp 75), type := 0, pos := "more.go:24", after := #[{ on := 9, ground := Ground.data }, { on := 7, ground := Ground.data }, { on := 5, ground := Ground.chain }, { on := 0, ground := Ground.phase }, { on := 1, ground := Ground.phase }, { on := 2, ground := Ground.phase }, { on := 3, ground := Ground.phase }, { on := 4, ground := Ground.phase }, { on := 5, ground := Ground.phase }, { on := 6, ground := Ground.phase }, { on := 7, ground := Ground.phase }, { on := 8, ground := Ground.textOnly Departure.lateStores }, { on := 9, ground := Ground.phase }], guard := none }) rfl (fun K hK => ?_) (AllReadyH.nil)
              rw [if_pos (by rfl)]
              refine wp_store_ob 27 (.tmp 12) (.tmp 75) B2 (dvCells (.slice apx X.pages.length cpx) X (.slice aux X.unread.length cux) (.slice afx X.faults.length cfx)) (dvCells nilS dvNil nilS nilS) 27 rfl rfl rfl rfl ((HS24.out).get 3 rfl) (info_dv) (rfl) ((oneCell_dv _ _ _ _ _ _ _ _ _ _)) ?_
              have HS25 : Hid (Hp w [.cd C, .ob B1 27 (dvCells (.slice apd d.pages.length cpd) d (.slice aud d.unread.length cud) (.slice afd d.faults.length cfd)), .rd Rd, .ob B2 27 (dvCells (.slice apx X.pages.length cpx) X (.slice aux X.unread.length cux) (.slice afx X.faults.length cfx)), .rd Rx] (w24.setRow B2 (dvCells (.slice apx X.pages.length cpx) X (.slice aux X.unread.length cux) (.slice afx X.faults.length cfx)).toArray)) := (HS24.out).row 3 rfl (dvCells (.slice apx X.pages.length cpx) X (.slice aux X.unread.length cux) (.slice afx X.faults.length cfx))
              refine hK.out _ _ (HS25.out.pick [1] rfl) (fun hHeld => ?_)
              clear hK K
              generalize (w24.setRow B2 (dvCells (.slice apx X.pages.length cpx) X (.slice aux X.unread.length cux) (.slice afx X.faults.length cfx)).toArray) = w25 at *
              try simp only [Act.put, List.setIfInBounds_toArray, List.set_cons_zero, List.set_cons_succ]
              refine wpAnyH_take (i := 11) (oi := { dst := some 13, op := Op.assign (Operand.tmp 76), type := 35, pos := "more.go:24", after := #[{ on := 8, ground := Ground.data }, { on := 10, ground := Ground.chain }, { on := 0, ground := Ground.phase }, { on := 1, ground := Ground.phase }, { on := 2, ground := Ground.phase }, { on := 3, ground := Ground.phase }, { on := 4, ground := Ground.phase }, { on := 5, ground := Ground.phase }, { on := 6, ground := Ground.phase }, { on := 7, ground := Ground.phase }, { on := 8, ground := Ground.phase }, { on := 9, ground := Ground.phase }, { on := 10, ground := Ground.phase }], guard := none }) (v := ?q11v) rfl (by kernel_rfl) (by kernel_rfl) (by kernel_rfl) (fun _ _ _ h => h) (Or.inl ⟨by rfl, ?q11h⟩) hHeld ?q11r
              case q11h => (intro wq hSw; clear hSw; go_simp; try with_reducible rfl)
              try simp only [Act.put, List.setIfInBounds_toArray, List.set_cons_zero, List.set_cons_succ]
              refine wpAnyH_done (by kernel_rfl) ?_ _
              go_wp2_with fail
              go_meet
              exact ⟨B2, X, apx, cpx, aux, cux, afx, cfx, Rx, rfl, rfl, ⟨HOX.out, HDvx.out⟩, HS25.out⟩
          · rw [if_pos (by rfl)]
            refine wp_alloc_ob 27 (dvCells nilS dvNil nilS nilS) rfl alloc_dv ?_
            have HS22 : Hid (Hp w [.cd C, .ob B1 27 (dvCells (.slice apd d.pages.length cpd) d (.slice aud d.unread.length cud) (.slice afd d.faults.length cfd)), .rd Rd, .ob (w21.heap.size) 27 (dvCells nilS dvNil nilS nilS)] (w21.alloc (.cells (dvCells nilS dvNil nilS nilS).toArray 27))) := (HS21.out).put 27 (dvCells nilS dvNil nilS nilS)
            refine hK.out _ _ (HS22.out.pick [1] rfl) (fun hHeld => ?_)
            clear hK K
            generalize (w21.alloc (.cells (dvCells nilS dvNil nilS nilS).toArray 27)) = w22 at *
            generalize w21.heap.size = B2 at *
            try simp only [Act.put, List.setIfInBounds_toArray, List.set_cons_zero, List.set_cons_succ]
            refine wpAnyH_ready (rs := [4]) (by kernel_rfl) (by simp) ?_
            refine AllReadyH.cons (o := { dst := some 73, op := Op.call { callee := Callee.value (Operand.func 18), args := #[Operand.tmp 72], argTypes := #[32] }, type := 9, pos := "more.go:24", after := #[{ on := 3, ground := Ground.data }, { on := 2, ground := Ground.chain }], guard := none }) rfl (fun K hK => ?_) (AllReadyH.nil)
            go_simp
            go_wp2_with (go_at_call 18; refine (bytes_any C _ ((HS22.out).codes 0 rfl)).mono ?_; rintro e w23 ⟨s, rfl, hs2, hb, hc⟩)
            have HS23 : Hid (Hp w [.cd C, .ob B1 27 (dvCells (.slice apd d.pages.length cpd) d (.slice aud d.unread.length cud) (.slice afd d.faults.length cfd)), .rd Rd, .ob B2 27 (dvCells nilS dvNil nilS nilS)] w23) := (HS22.out).draws 0 rfl hb hc
            refine hK.out _ _ (HS23.out.pick [1] rfl) (fun hHeld => ?_)
            clear hK K hb hc
            have HSz := Lib.hid hs2
            obtain ⟨X, eX, oX⟩ := HDd.out.step HI.out HQ2.out hs2
            have HEX := Lib.hid eX
            have HOX := Lib.hid oX
            have HSm : Hid (s.size ≤ maxLen) := by show _ ≤ _; rw [HSz.out]; decide
            clear eX oX hs2
            try simp only [Act.put, List.setIfInBounds_toArray, List.set_cons_zero, List.set_cons_succ]
            refine wpAnyH_ready (rs := [5]) (by kernel_rfl) (by simp) ?_
            refine AllReadyH.cons (o := { dst := some 74, op := Op.call { callee := Callee.value (Operand.func 20), args := #[Operand.tmp 69, Operand.tmp 71, Operand.tmp 73], argTypes := #[27, 3, 9] }, type := 36, pos := "more.go:24", after := #[{ on := 0, ground := Ground.data }, { on := 2, ground := Ground.data }, { on := 4, ground := Ground.data }, { on := 4, ground := Ground.chain }], guard := none }) rfl (fun K hK => ?_) (AllReadyH.nil)
            go_simp
            go_wp2_with (go_at_call 20; refine (dv_as HEX.out (write_any q s _ HDv.out ((HS23.out).reads 2 rfl) HDd.out.ok.goodDv HSm.out HDd.out.ok.pg HDd.out.ok.fl)).mono ?_; rintro e w24 ⟨px, ux, fx, Rx, rfl, hrd, hin, hnew, hb⟩)
            obtain ⟨apx, cpx, rfl, _⟩ := hrd.pages
            obtain ⟨aux, cux, rfl, _⟩ := hrd.unread
            obtain ⟨afx, cfx, rfl, _⟩ := hrd.faults
            have HDvx := Lib.hid hrd
            have HS24 : Hid (Hp w [.cd C, .ob B1 27 (dvCells (.slice apd d.pages.length cpd) d (.slice aud d.unread.length cud) (.slice afd d.faults.length cfd)), .rd Rd, .ob B2 27 (dvCells nilS dvNil nilS nilS), .rd Rx] w24) := (HS23.out).addrd hb Rx hin (fun r hr => (hnew r hr).elim .inl (fun h => .inr ⟨.rd Rd, List.mem_of_getElem? (i := 2) rfl, List.mem_map.2 ⟨r, h, rfl⟩⟩))
            refine hK.out _ _ (HS24.out.pick [1] rfl) (fun hHeld => ?_)
            clear hK K hb hin hnew hrd
            try simp only [Act.put, List.setIfInBounds_toArray, List.set_cons_zero, List.set_cons_succ]
            refine wpAnyH_take (i := 6) (oi := { dst := some 68, op := Op.move (Operand.tmp 74), type := 36, pos := "more.go:24", after := #[{ on := 5, ground := Ground.data }], guard := none }) (v := ?q12v) rfl (by kernel_rfl) (by kernel_rfl) (by kernel_rfl) (fun _ _ _ h => h) (Or.inl ⟨by rfl, ?q12h⟩) hHeld ?q12r
            case q12h => (intro wq hSw; clear hSw; go_simp; try with_reducible rfl)
            try simp only [Act.put, List.setIfInBounds_toArray, List.set_cons_zero, List.set_cons_succ]
            refine wpAnyH_take (i := 7) (oi := { dst := some 75, op := Op.extract (Operand.tmp 68) 0, type := 27, pos := "more.go:24", after := #[{ on := 6, ground := Ground.data }], guard := none }) (v := ?q13v) rfl (by kernel_rfl) (by kernel_rfl) (by kernel_rfl) (fun _ _ _ h => h) (Or.inl ⟨by rfl, ?q13h⟩) hHeld ?q13r
            case q13h => (intro wq hSw; clear hSw; go_simp; try with_reducible rfl)
            try simp only [Act.put, List.setIfInBounds_toArray, List.set_cons_zero, List.set_cons_succ]
            refine wpAnyH_take (i := 8) (oi := { dst := some 76, op := Op.extract (Operand.tmp 68) 1, type := 35, pos := "more.go:24", after := #[{ on := 6, ground := Ground.data }, { on := 10, ground := Ground.gcOnly Departure.lateStores }], guard := none }) (v := ?q14v) rfl (by kernel_rfl) (by kernel_rfl) (by kernel_rfl) (fun _ _ _ h => h) (Or.inl ⟨by rfl, ?q14h⟩) hHeld ?q14r
            case q14h => (intro wq hSw; clear hSw; go_simp; try with_reducible rfl)
            try simp only [Act.put, List.setIfInBounds_toArray, List.set_cons_zero, List.set_cons_succ]
            refine wpAnyH_ready (rs := [10]) (by kernel_rfl) (by simp) ?_
            refine AllReadyH.cons (o := { dst := none, op := Op.store 27 (Operand.tmp 12) (Operand.tmp 75), type := 0, pos := "more.go:24", after := #[{ on := 9, ground := Ground.data }, { on := 7, ground := Ground.data }, { on := 5, ground := Ground.chain }, { on := 0, ground := Ground.phase }, { on := 1, ground := Ground.phase }, { on := 2, ground := Ground.phase }, { on := 3, ground := Ground.phase }, { on := 4, ground := Ground.phase }, { on := 5, ground := Ground.phase }, { on := 6, ground := Ground.phase }, { on := 7, ground := Ground.phase }, { on := 8, ground := Ground.textOnly Departure.lateStores }, { on := 9, ground := Ground.phase }], guard := none }) rfl (fun K hK => ?_) (AllReadyH.nil)
            rw [if_pos (by rfl)]
            refine wp_store_ob 27 (.tmp 12) (.tmp 75) B2 (dvCells (.slice apx X.pages.length cpx) X (.slice aux X.unread.length cux) (.slice afx X.faults.length cfx)) (dvCells nilS dvNil nilS nilS) 27 rfl rfl rfl rfl ((HS24.out).get 3 rfl) (info_dv) (rfl) ((oneCell_dv _ _ _ _ _ _ _ _ _ _)) ?_
            have HS25 : Hid (Hp w [.cd C, .ob B1 27 (dvCells (.slice apd d.pages.length cpd) d (.slice aud d.unread.length cud) (.slice afd d.faults.length cfd)), .rd Rd, .ob B2 27 (dvCells (.slice apx X.pages.length cpx) X (.slice aux X.unread.length cux) (.slice afx X.faults.length cfx)), .rd Rx] (w24.setRow B2 (dvCells (.slice apx X.pages.length cpx) X (.slice aux X.unread.length cux) (.slice afx X.faults.length cfx)).toArray)) := (HS24.out).row 3 rfl (dvCells (.slice apx X.pages.length cpx) X (.slice aux X.unread.length cux) (.slice afx X.faults.length cfx))
            refine hK.out _ _ (HS25.out.pick [1] rfl) (fun hHeld => ?_)
            clear hK K
            generalize (w24.setRow B2 (dvCells (.slice apx X.pages.length cpx) X (.slice aux X.unread.length cux) (.slice afx X.faults.length cfx)).toArray) = w25 at *
            try simp only [Act.put, List.setIfInBounds_toArray, List.set_cons_zero, List.set_cons_succ]
            refine wpAnyH_take (i := 11) (oi := { dst := some 13, op := Op.assign (Operand.tmp 76), type := 35, pos := "more.go:24", after := #[{ on := 8, ground := Ground.data }, { on := 10, ground := Ground.chain }, { on := 0, ground := Ground.phase }, { on := 1, ground := Ground.phase }, { on := 2, ground := Ground.phase }, { on := 3, ground := Ground.phase }, { on := 4, ground := Ground.phase }, { on := 5, ground := Ground.phase }, { on := 6, ground := Ground.phase }, { on := 7, ground := Ground.phase }, { on := 8, ground := Ground.phase }, { on := 9, ground := Ground.phase }, { on := 10, ground := Ground.phase }], guard := none }) (v := ?q15v) rfl (by kernel_rfl) (by kernel_rfl) (by kernel_rfl) (fun _ _ _ h => h) (Or.inl ⟨by rfl, ?q15h⟩) hHeld ?q15r
            case q15h => (intro wq hSw; clear hSw; go_simp; try with_reducible rfl)
            try simp only [Act.put, List.setIfInBounds_toArray, List.set_cons_zero, List.set_cons_succ]
            refine wpAnyH_done (by kernel_rfl) ?_ _
            go_wp2_with fail
            go_meet
            exact ⟨B2, X, apx, cpx, aux, cux, afx, cfx, Rx, rfl, rfl, ⟨HOX.out, HDvx.out⟩, HS25.out⟩
        · rw [if_pos (by rfl)]
          refine wp_alloc_ob 27 (dvCells nilS dvNil nilS nilS) rfl alloc_dv ?_
          have HS21 : Hid (Hp w [.cd C, .ob B1 27 (dvCells (.slice apd d.pages.length cpd) d (.slice aud d.unread.length cud) (.slice afd d.faults.length cfd)), .rd Rd, .ob (wr.drew.heap.size) 27 (dvCells nilS dvNil nilS nilS)] (wr.drew.alloc (.cells (dvCells nilS dvNil nilS nilS).toArray 27))) := ((HQ.out).drew).put 27 (dvCells nilS dvNil nilS nilS)
          refine hK.out _ _ (HS21.out.pick [1] rfl) (fun hHeld => ?_)
          clear hK K
          generalize (wr.drew.alloc (.cells (dvCells nilS dvNil nilS nilS).toArray 27)) = w21 at *
          generalize wr.drew.heap.size = B2 at *
          try simp only [Act.put, List.setIfInBounds_toArray, List.set_cons_zero, List.set_cons_succ]
          refine wpAnyH_ready (rs := [2]) (by kernel_rfl) (by simp) ?_
          refine AllReadyH.cons (o := { dst := some 71, op := Op.call { callee := Callee.value (Operand.func 17), args := #[Operand.tmp 70, Operand.const (Value.int IntKind.i64 2)], argTypes := #[32, 3] }, type := 3, pos := "more.go:24", after := #[{ on := 1, ground := Ground.data }], guard := none }) rfl (fun K hK => ?_) (AllReadyH.nil)
          go_simp
          go_wp2_with (go_at_call 17; refine (next_any C 2 _ ((HS21.out).codes 0 rfl) (by omega)).mono ?_; rintro e w22 ⟨qn, rfl, q0, q1, hb, hc⟩)
          have HS22 : Hid (Hp w [.cd C, .ob B1 27 (dvCells (.slice apd d.pages.length cpd) d (.slice aud d.unread.length cud) (.slice afd d.faults.length cfd)), .rd Rd, .ob B2 27 (dvCells nilS dvNil nilS nilS)] w22) := (HS21.out).draws 0 rfl hb hc
          refine hK.out _ _ (HS22.out.pick [1] rfl) (fun hHeld => ?_)
          clear hK K hb hc
          obtain ⟨q, rfl⟩ := Int.eq_ofNat_of_zero_le q0
          have HQ2 : Hid (q < 2) := (show q < 2 by omega)
          clear q0 q1
          try simp only [Act.put, List.setIfInBounds_toArray, List.set_cons_zero, List.set_cons_succ]
          refine wpAnyH_ready (rs := [4]) (by kernel_rfl) (by simp) ?_
          refine AllReadyH.cons (o := { dst := some 73, op := Op.call { callee := Callee.value (Operand.func 18), args := #[Operand.tmp 72], argTypes := #[32] }, type := 9, pos := "more.go:24", after := #[{ on := 3, ground := Ground.data }, { on := 2, ground := Ground.chain }], guard := none }) rfl (fun K hK => ?_) (AllReadyH.nil)
          go_simp
          go_wp2_with (go_at_call 18; refine (bytes_any C _ ((HS22.out).codes 0 rfl)).mono ?_; rintro e w23 ⟨s, rfl, hs2, hb, hc⟩)
          have HS23 : Hid (Hp w [.cd C, .ob B1 27 (dvCells (.slice apd d.pages.length cpd) d (.slice aud d.unread.length cud) (.slice afd d.faults.length cfd)), .rd Rd, .ob B2 27 (dvCells nilS dvNil nilS nilS)] w23) := (HS22.out).draws 0 rfl hb hc
          refine hK.out _ _ (HS23.out.pick [1] rfl) (fun hHeld => ?_)
          clear hK K hb hc
          have HSz := Lib.hid hs2
          obtain ⟨X, eX, oX⟩ := HDd.out.step HI.out HQ2.out hs2
          have HEX := Lib.hid eX
          have HOX := Lib.hid oX
          have HSm : Hid (s.size ≤ maxLen) := by show _ ≤ _; rw [HSz.out]; decide
          clear eX oX hs2
          try simp only [Act.put, List.setIfInBounds_toArray, List.set_cons_zero, List.set_cons_succ]
          refine wpAnyH_ready (rs := [5]) (by kernel_rfl) (by simp) ?_
          refine AllReadyH.cons (o := { dst := some 74, op := Op.call { callee := Callee.value (Operand.func 20), args := #[Operand.tmp 69, Operand.tmp 71, Operand.tmp 73], argTypes := #[27, 3, 9] }, type := 36, pos := "more.go:24", after := #[{ on := 0, ground := Ground.data }, { on := 2, ground := Ground.data }, { on := 4, ground := Ground.data }, { on := 4, ground := Ground.chain }], guard := none }) rfl (fun K hK => ?_) (AllReadyH.nil)
          go_simp
          go_wp2_with (go_at_call 20; refine (dv_as HEX.out (write_any q s _ HDv.out ((HS23.out).reads 2 rfl) HDd.out.ok.goodDv HSm.out HDd.out.ok.pg HDd.out.ok.fl)).mono ?_; rintro e w24 ⟨px, ux, fx, Rx, rfl, hrd, hin, hnew, hb⟩)
          obtain ⟨apx, cpx, rfl, _⟩ := hrd.pages
          obtain ⟨aux, cux, rfl, _⟩ := hrd.unread
          obtain ⟨afx, cfx, rfl, _⟩ := hrd.faults
          have HDvx := Lib.hid hrd
          have HS24 : Hid (Hp w [.cd C, .ob B1 27 (dvCells (.slice apd d.pages.length cpd) d (.slice aud d.unread.length cud) (.slice afd d.faults.length cfd)), .rd Rd, .ob B2 27 (dvCells nilS dvNil nilS nilS), .rd Rx] w24) := (HS23.out).addrd hb Rx hin (fun r hr => (hnew r hr).elim .inl (fun h => .inr ⟨.rd Rd, List.mem_of_getElem? (i := 2) rfl, List.mem_map.2 ⟨r, h, rfl⟩⟩))
          refine hK.out _ _ (HS24.out.pick [1] rfl) (fun hHeld => ?_)
          clear hK K hb hin hnew hrd
          try simp only [Act.put, List.setIfInBounds_toArray, List.set_cons_zero, List.set_cons_succ]
          refine wpAnyH_take (i := 6) (oi := { dst := some 68, op := Op.move (Operand.tmp 74), type := 36, pos := "more.go:24", after := #[{ on := 5, ground := Ground.data }], guard := none }) (v := ?q16v) rfl (by kernel_rfl) (by kernel_rfl) (by kernel_rfl) (fun _ _ _ h => h) (Or.inl ⟨by rfl, ?q16h⟩) hHeld ?q16r
          case q16h => (intro wq hSw; clear hSw; go_simp; try with_reducible rfl)
          try simp only [Act.put, List.setIfInBounds_toArray, List.set_cons_zero, List.set_cons_succ]
          refine wpAnyH_take (i := 7) (oi := { dst := some 75, op := Op.extract (Operand.tmp 68) 0, type := 27, pos := "more.go:24", after := #[{ on := 6, ground := Ground.data }], guard := none }) (v := ?q17v) rfl (by kernel_rfl) (by kernel_rfl) (by kernel_rfl) (fun _ _ _ h => h) (Or.inl ⟨by rfl, ?q17h⟩) hHeld ?q17r
          case q17h => (intro wq hSw; clear hSw; go_simp; try with_reducible rfl)
          try simp only [Act.put, List.setIfInBounds_toArray, List.set_cons_zero, List.set_cons_succ]
          refine wpAnyH_take (i := 8) (oi := { dst := some 76, op := Op.extract (Operand.tmp 68) 1, type := 35, pos := "more.go:24", after := #[{ on := 6, ground := Ground.data }, { on := 10, ground := Ground.gcOnly Departure.lateStores }], guard := none }) (v := ?q18v) rfl (by kernel_rfl) (by kernel_rfl) (by kernel_rfl) (fun _ _ _ h => h) (Or.inl ⟨by rfl, ?q18h⟩) hHeld ?q18r
          case q18h => (intro wq hSw; clear hSw; go_simp; try with_reducible rfl)
          try simp only [Act.put, List.setIfInBounds_toArray, List.set_cons_zero, List.set_cons_succ]
          refine wpAnyH_ready (rs := [10]) (by kernel_rfl) (by simp) ?_
          refine AllReadyH.cons (o := { dst := none, op := Op.store 27 (Operand.tmp 12) (Operand.tmp 75), type := 0, pos := "more.go:24", after := #[{ on := 9, ground := Ground.data }, { on := 7, ground := Ground.data }, { on := 5, ground := Ground.chain }, { on := 0, ground := Ground.phase }, { on := 1, ground := Ground.phase }, { on := 2, ground := Ground.phase }, { on := 3, ground := Ground.phase }, { on := 4, ground := Ground.phase }, { on := 5, ground := Ground.phase }, { on := 6, ground := Ground.phase }, { on := 7, ground := Ground.phase }, { on := 8, ground := Ground.textOnly Departure.lateStores }, { on := 9, ground := Ground.phase }], guard := none }) rfl (fun K hK => ?_) (AllReadyH.nil)
          rw [if_pos (by rfl)]
          refine wp_store_ob 27 (.tmp 12) (.tmp 75) B2 (dvCells (.slice apx X.pages.length cpx) X (.slice aux X.unread.length cux) (.slice afx X.faults.length cfx)) (dvCells nilS dvNil nilS nilS) 27 rfl rfl rfl rfl ((HS24.out).get 3 rfl) (info_dv) (rfl) ((oneCell_dv _ _ _ _ _ _ _ _ _ _)) ?_
          have HS25 : Hid (Hp w [.cd C, .ob B1 27 (dvCells (.slice apd d.pages.length cpd) d (.slice aud d.unread.length cud) (.slice afd d.faults.length cfd)), .rd Rd, .ob B2 27 (dvCells (.slice apx X.pages.length cpx) X (.slice aux X.unread.length cux) (.slice afx X.faults.length cfx)), .rd Rx] (w24.setRow B2 (dvCells (.slice apx X.pages.length cpx) X (.slice aux X.unread.length cux) (.slice afx X.faults.length cfx)).toArray)) := (HS24.out).row 3 rfl (dvCells (.slice apx X.pages.length cpx) X (.slice aux X.unread.length cux) (.slice afx X.faults.length cfx))
          refine hK.out _ _ (HS25.out.pick [1] rfl) (fun hHeld => ?_)
          clear hK K
          generalize (w24.setRow B2 (dvCells (.slice apx X.pages.length cpx) X (.slice aux X.unread.length cux) (.slice afx X.faults.length cfx)).toArray) = w25 at *
          try simp only [Act.put, List.setIfInBounds_toArray, List.set_cons_zero, List.set_cons_succ]
          refine wpAnyH_take (i := 11) (oi := { dst := some 13, op := Op.assign (Operand.tmp 76), type := 35, pos := "more.go:24", after := #[{ on := 8, ground := Ground.data }, { on := 10, ground := Ground.chain }, { on := 0, ground := Ground.phase }, { on := 1, ground := Ground.phase }, { on := 2, ground := Ground.phase }, { on := 3, ground := Ground.phase }, { on := 4, ground := Ground.phase }, { on := 5, ground := Ground.phase }, { on := 6, ground := Ground.phase }, { on := 7, ground := Ground.phase }, { on := 8, ground := Ground.phase }, { on := 9, ground := Ground.phase }, { on := 10, ground := Ground.phase }], guard := none }) (v := ?q19v) rfl (by kernel_rfl) (by kernel_rfl) (by kernel_rfl) (fun _ _ _ h => h) (Or.inl ⟨by rfl, ?q19h⟩) hHeld ?q19r
          case q19h => (intro wq hSw; clear hSw; go_simp; try with_reducible rfl)
          try simp only [Act.put, List.setIfInBounds_toArray, List.set_cons_zero, List.set_cons_succ]
          refine wpAnyH_done (by kernel_rfl) ?_ _
          go_wp2_with fail
          go_meet
          exact ⟨B2, X, apx, cpx, aux, cux, afx, cfx, Rx, rfl, rfl, ⟨HOX.out, HDvx.out⟩, HS25.out⟩
      case rest =>
        obtain ⟨B23, X, apx, cpx, aux, cux, afx, cfx, Rx, rfl, rfl, hx, hs⟩ := hcut
        have HS45 : Hid (Hp w [.cd C, .ob B1 27 (dvCells (.slice apd d.pages.length cpd) d (.slice aud d.unread.length cud) (.slice afd d.faults.length cfd)), .rd Rd, .ob B23 27 (dvCells (.slice apx X.pages.length cpx) X (.slice aux X.unread.length cux) (.slice afx X.faults.length cfx)), .rd Rx] wc) := hs
        clear hs HQ
        generalize wc = w46 at *
        obtain ⟨oX, hdvx⟩ := hx
        have HOX := Lib.hid oX
        have HDvx := Lib.hid hdvx
        clear oX hdvx
        have hn2 := HNN.out.2.2
        have hdead : X.dead = decide ((i : Int) + 1 = n) := HOX.out.dead
        have hc3 : w46.cell? ⟨B23, 3, none⟩ = some (.bool X.dead) := HS45.out.at 3 rfl 3 rfl
        rw [hdead] at hc3
        clear hdead
        by_cases hin : (i : Int) + 1 = n
        · have hwi : IntKind.i64.wrap (i : Int) = i := IntWalk.i64_in _ (by have := HN6.out; omega)
          rw [decide_eq_true hin] at hc3
          subst hin
          go_wp2_with (first | ((with_reducible refine wpList_load_ob 27 (.tmp 12) B23 (dvCells (.slice apx X.pages.length cpx) X (.slice aux X.unread.length cux) (.slice afx X.faults.length cfx)) 27 HUD.out ?_ ?_ ?_ ?_ ?_); (exact rfl); (exact (HS45.out).get 3 rfl); (exact rfl); (exact info_dv); simp only [Act.put, List.setIfInBounds_toArray, List.set_cons_zero, List.set_cons_succ]) | ((with_reducible refine wpList_store_ob 27 (.tmp 6) B1 (dvCells (.slice apx X.pages.length cpx) X (.slice aux X.unread.length cux) (.slice afx X.faults.length cfx)) (dvCells (.slice apd d.pages.length cpd) d (.slice aud d.unread.length cud) (.slice afd d.faults.length cfd)) 27 ?_ ?_ ?_ ?_ ?_ ?_ ?_); (exact rfl); (exact rfl); (exact (HS45.out).get 1 rfl); (exact info_dv); (exact rfl); (exact (oneCell_dv _ _ _ _ _ _ _ _ _ _)); skip))
          have HS46 : Hid (Hp w [.cd C, .ob B1 27 (dvCells (.slice apx X.pages.length cpx) X (.slice aux X.unread.length cux) (.slice afx X.faults.length cfx)), .rd Rd, .ob B23 27 (dvCells (.slice apx X.pages.length cpx) X (.slice aux X.unread.length cux) (.slice afx X.faults.length cfx)), .rd Rx] (w46.setRow B1 (dvCells (.slice apx X.pages.length cpx) X (.slice aux X.unread.length cux) (.slice afx X.faults.length cfx)).toArray)) := (HS45.out).row 1 rfl (dvCells (.slice apx X.pages.length cpx) X (.slice aux X.unread.length cux) (.slice afx X.faults.length cfx))
          clear HS45
          generalize (w46.setRow B1 (dvCells (.slice apx X.pages.length cpx) X (.slice aux X.unread.length cux) (.slice afx X.faults.length cfx)).toArray) = w47 at *
          have HS47 : Hid (Hp w [.cd C, .ob B1 27 (dvCells (.slice apx X.pages.length cpx) X (.slice aux X.unread.length cux) (.slice afx X.faults.length cfx)), .rd Rx] w47) := HS46.out.pull [0, 1, 4] rfl (pull_nd HS46.out.nd [0, 1, 4] rfl (by decide))
          clear HS46
          go_roundw
          case rel => exact ⟨X, _, _, _, Rx, i + 1, by go_num, by have := HI.out; omega, HOX.out, HDvx.out, HS47.out⟩
          case measure => simp [intOf]; try (have := HI.out; omega)
        · have hne : ¬ ((i : Int) = n - 1) := by omega
          rw [decide_eq_false hin] at hc3
          clear hin
          go_wp2_with (first | ((with_reducible refine wpList_load_ob 27 (.tmp 12) B23 (dvCells (.slice apx X.pages.length cpx) X (.slice aux X.unread.length cux) (.slice afx X.faults.length cfx)) 27 HUD.out ?_ ?_ ?_ ?_ ?_); (exact rfl); (exact (HS45.out).get 3 rfl); (exact rfl); (exact info_dv); simp only [Act.put, List.setIfInBounds_toArray, List.set_cons_zero, List.set_cons_succ]) | ((with_reducible refine wpList_store_ob 27 (.tmp 6) B1 (dvCells (.slice apx X.pages.length cpx) X (.slice aux X.unread.length cux) (.slice afx X.faults.length cfx)) (dvCells (.slice apd d.pages.length cpd) d (.slice aud d.unread.length cud) (.slice afd d.faults.length cfd)) 27 ?_ ?_ ?_ ?_ ?_ ?_ ?_); (exact rfl); (exact rfl); (exact (HS45.out).get 1 rfl); (exact info_dv); (exact rfl); (exact (oneCell_dv _ _ _ _ _ _ _ _ _ _)); skip))
          have HS46 : Hid (Hp w [.cd C, .ob B1 27 (dvCells (.slice apx X.pages.length cpx) X (.slice aux X.unread.length cux) (.slice afx X.faults.length cfx)), .rd Rd, .ob B23 27 (dvCells (.slice apx X.pages.length cpx) X (.slice aux X.unread.length cux) (.slice afx X.faults.length cfx)), .rd Rx] (w46.setRow B1 (dvCells (.slice apx X.pages.length cpx) X (.slice aux X.unread.length cux) (.slice afx X.faults.length cfx)).toArray)) := (HS45.out).row 1 rfl (dvCells (.slice apx X.pages.length cpx) X (.slice aux X.unread.length cux) (.slice afx X.faults.length cfx))
          clear HS45
          generalize (w46.setRow B1 (dvCells (.slice apx X.pages.length cpx) X (.slice aux X.unread.length cux) (.slice afx X.faults.length cfx)).toArray) = w47 at *
          have HS47 : Hid (Hp w [.cd C, .ob B1 27 (dvCells (.slice apx X.pages.length cpx) X (.slice aux X.unread.length cux) (.slice afx X.faults.length cfx)), .rd Rx] w47) := HS46.out.pull [0, 1, 4] rfl (pull_nd HS46.out.nd [0, 1, 4] rfl (by decide))
          clear HS46
          go_roundw
          case rel => exact ⟨X, _, _, _, Rx, i + 1, by go_num, by have := HI.out; omega, HOX.out, HDvx.out, HS47.out⟩
          case measure => simp [intOf]; try (have := HI.out; omega)
    · obtain rfl : (i : Int) = n := by omega
      have HDd := Lib.hid dd
      obtain ⟨q1, q2, q3, x, q4, okx, qw, qf, qy⟩ := dd.done
      have HQ1 : Hid (readR d 0 = (⟨#[]⟩, 10) ∧ (∀ s, writeR d 0 s = (dvNil, 10)) ∧ (∀ s, tearR d 0 s 5 = (dvNil, 10)) ∧ replaceR d = (x, 0)) := ⟨q1, q2, q3, q4⟩
      have HX : Hid (DvOk x ∧ x.writes = i ∧ x.faults.length = 1) := ⟨okx, qw, qf⟩
      have HY := Lib.hid qy
      clear dd hin q1 q2 q3 q4 okx qw qf qy hlt
      go_wp2_with (first | ((with_reducible refine wpList_load_ob 27 (.tmp 6) B1 (dvCells (.slice apd d.pages.length cpd) d (.slice aud d.unread.length cud) (.slice afd d.faults.length cfd)) 27 HUD.out ?_ ?_ ?_ ?_ ?_); (exact rfl); (exact (HQ.out).get 1 rfl); (exact rfl); (exact info_dv); simp only [Act.put, List.setIfInBounds_toArray, List.set_cons_zero, List.set_cons_succ]))
      refine (HQ1.out.1 ▸ read_any 0 _ HDv.out ((HQ.out).reads 2 rfl) HDd.out.ok.goodDv).mono ?_
      rintro e w201 ⟨rfl, hb⟩
      have HS201 : Hid (Hp w [.cd C, .ob B1 27 (dvCells (.slice apd d.pages.length cpd) d (.slice aud d.unread.length cud) (.slice afd d.faults.length cfd)), .rd Rd] w201) := (HQ.out).calls hb
      clear hb
      clear HQ
      go_upto_region 18 with (fail)
      go_cut [16, 17] (fun s16 s17 wx => ∃ bq0, ∃ (ape : Option Addr) (cpe : Nat) (aue : Option Addr) (cue : Nat) (afe : Option Addr) (cfe : Nat) (Re : List Rng), s16 = .pointer (some ⟨bq0, 0, none⟩) ∧ s17 = .int .i64 10 ∧ Hp w [.cd C, .ob B1 27 (dvCells (.slice apd d.pages.length cpd) d (.slice aud d.unread.length cud) (.slice afd d.faults.length cfd)), .rd Rd, .ob bq0 27 (dvCells (.slice ape dvNil.pages.length cpe) dvNil (.slice aue dvNil.unread.length cue) (.slice afe dvNil.faults.length cfe)), .rd Re] wx)
      case first =>
        refine wp_region_held_drew (S := fun w' => Hold w.heap.size [.ob B1 27 (dvCells (.slice apd d.pages.length cpd) d (.slice aud d.unread.length cud) (.slice afd d.faults.length cfd))] w') (by kernel_rfl) ((HS201.out).drew.pick [1] rfl) (fun hHeld => ?_)
        refine wpAnyH_take (i := 0) (oi := { dst := some 95, op := Op.load 27 (Operand.tmp 6), type := 27, pos := "more.go:31", after := #[], guard := none }) rfl (by kernel_rfl) (by kernel_rfl) (by kernel_rfl) (fun _ _ _ h => h) (yieldsIf_load_mid (by rfl) 27 (.tmp 6) rfl B1 0 rfl (dvCells (.slice apd d.pages.length cpd) d (.slice aud d.unread.length cud) (.slice afd d.faults.length cfd)) _ (fun _ h => h.whole 0 rfl) HUD.out rfl (info_dv)) hHeld ?_
        try simp only [Act.put, List.setIfInBounds_toArray, List.set_cons_zero, List.set_cons_succ]
        refine wpAnyH_take (i := 1) (oi := { dst := some 96, op := Op.move (Operand.tmp 5), type := 32, pos := "more.go:31", after := #[], guard := none }) (v := ?q21v) rfl (by kernel_rfl) (by kernel_rfl) (by kernel_rfl) (fun _ _ _ h => h) (Or.inl ⟨by rfl, ?q21h⟩) hHeld ?q21r
        case q21h => (intro wq hSw; clear hSw; go_simp; try with_reducible rfl)
        try simp only [Act.put, List.setIfInBounds_toArray, List.set_cons_zero, List.set_cons_succ]
        refine wpAnyH_ready (rs := [2, 7]) (by kernel_rfl) (by simp) ?_
        refine AllReadyH.cons (o := { dst := some 97, op := Op.call { callee := Callee.value (Operand.func 18), args := #[Operand.tmp 96], argTypes := #[32] }, type := 9, pos := "more.go:31", after := #[{ on := 1, ground := Ground.data }], guard := none }) rfl (fun K hK => ?_) (AllReadyH.cons (o := { dst := some 16, op := Op.alloc 27, type := 0, pos := "more.go:31", after := #[], guard := none }) rfl (fun K hK => ?_) (AllReadyH.nil))
        · go_simp
          go_wp2_with (go_at_call 18; refine (bytes_any C _ (((HS201.out).drew).codes 0 rfl)).mono ?_; rintro e w202 ⟨s1, rfl, hs2, hb, hc⟩)
          have HS202 : Hid (Hp w [.cd C, .ob B1 27 (dvCells (.slice apd d.pages.length cpd) d (.slice aud d.unread.length cud) (.slice afd d.faults.length cfd)), .rd Rd] w202) := ((HS201.out).drew).draws 0 rfl hb hc
          refine hK.out _ _ (HS202.out.pick [1] rfl) (fun hHeld => ?_)
          clear hK K hb hc
          have HSm_s1 : Hid (s1.size ≤ maxLen) := by show _ ≤ _; rw [hs2]; decide
          have HSz_s1 := Lib.hid hs2
          clear hs2
          try simp only [Act.put, List.setIfInBounds_toArray, List.set_cons_zero, List.set_cons_succ]
          refine wpAnyH_ready (rs := [3, 7]) (by kernel_rfl) (by simp) ?_
          refine AllReadyH.cons (o := { dst := some 98, op := Op.call { callee := Callee.value (Operand.func 20), args := #[Operand.tmp 95, Operand.const (Value.int IntKind.i64 0), Operand.tmp 97], argTypes := #[27, 3, 9] }, type := 36, pos := "more.go:31", after := #[{ on := 0, ground := Ground.data }, { on := 2, ground := Ground.data }, { on := 2, ground := Ground.chain }], guard := none }) rfl (fun K hK => ?_) (AllReadyH.cons (o := { dst := some 16, op := Op.alloc 27, type := 0, pos := "more.go:31", after := #[], guard := none }) rfl (fun K hK => ?_) (AllReadyH.nil))
          · go_simp
            go_wp2_with (go_at_call 20; refine (dv_as (HQ1.out.2.1 s1) (write_any 0 s1 _ HDv.out ((HS202.out).reads 2 rfl) HDd.out.ok.goodDv HSm_s1.out HDd.out.ok.pg HDd.out.ok.fl)).mono ?_; rintro e w203 ⟨pe, ue, fe, Re, rfl, hrd, hin, hnew, hb⟩)
            obtain ⟨ape, cpe, rfl, _⟩ := hrd.pages
            obtain ⟨aue, cue, rfl, _⟩ := hrd.unread
            obtain ⟨afe, cfe, rfl, _⟩ := hrd.faults
            have HDve := Lib.hid hrd
            have HS203 : Hid (Hp w [.cd C, .ob B1 27 (dvCells (.slice apd d.pages.length cpd) d (.slice aud d.unread.length cud) (.slice afd d.faults.length cfd)), .rd Rd, .rd Re] w203) := (HS202.out).addrd hb Re hin (fun r hr => (hnew r hr).elim .inl (fun h => .inr ⟨.rd Rd, List.mem_of_getElem? (i := 2) rfl, List.mem_map.2 ⟨r, h, rfl⟩⟩))
            refine hK.out _ _ (HS203.out.pick [1] rfl) (fun hHeld => ?_)
            clear hK K hb hin hnew hrd
            try simp only [Act.put, List.setIfInBounds_toArray, List.set_cons_zero, List.set_cons_succ]
            refine wpAnyH_take (i := 4) (oi := { dst := some 94, op := Op.move (Operand.tmp 98), type := 36, pos := "more.go:31", after := #[{ on := 3, ground := Ground.data }], guard := none }) (v := ?q22v) rfl (by kernel_rfl) (by kernel_rfl) (by kernel_rfl) (fun _ _ _ h => h) (Or.inl ⟨by rfl, ?q22h⟩) hHeld ?q22r
            case q22h => (intro wq hSw; clear hSw; go_simp; try with_reducible rfl)
            try simp only [Act.put, List.setIfInBounds_toArray, List.set_cons_zero, List.set_cons_succ]
            refine wpAnyH_take (i := 5) (oi := { dst := some 99, op := Op.extract (Operand.tmp 94) 0, type := 27, pos := "more.go:31", after := #[{ on := 4, ground := Ground.data }], guard := none }) (v := ?q23v) rfl (by kernel_rfl) (by kernel_rfl) (by kernel_rfl) (fun _ _ _ h => h) (Or.inl ⟨by rfl, ?q23h⟩) hHeld ?q23r
            case q23h => (intro wq hSw; clear hSw; go_simp; try with_reducible rfl)
            try simp only [Act.put, List.setIfInBounds_toArray, List.set_cons_zero, List.set_cons_succ]
            refine wpAnyH_take (i := 6) (oi := { dst := some 100, op := Op.extract (Operand.tmp 94) 1, type := 35, pos := "more.go:31", after := #[{ on := 4, ground := Ground.data }, { on := 8, ground := Ground.gcOnly Departure.lateStores }], guard := none }) (v := ?q24v) rfl (by kernel_rfl) (by kernel_rfl) (by kernel_rfl) (fun _ _ _ h => h) (Or.inl ⟨by rfl, ?q24h⟩) hHeld ?q24r
            case q24h => (intro wq hSw; clear hSw; go_simp; try with_reducible rfl)
            try simp only [Act.put, List.setIfInBounds_toArray, List.set_cons_zero, List.set_cons_succ]
            refine wpAnyH_ready (rs := [7]) (by kernel_rfl) (by simp) ?_
            refine AllReadyH.cons (o := { dst := some 16, op := Op.alloc 27, type := 0, pos := "more.go:31", after := #[], guard := none }) rfl (fun K hK => ?_) (AllReadyH.nil)
            rw [if_pos (by rfl)]
            refine wp_alloc_ob 27 (dvCells nilS dvNil nilS nilS) rfl alloc_dv ?_
            have HS204 : Hid (Hp w [.cd C, .ob B1 27 (dvCells (.slice apd d.pages.length cpd) d (.slice aud d.unread.length cud) (.slice afd d.faults.length cfd)), .rd Rd, .rd Re, .ob (w203.heap.size) 27 (dvCells nilS dvNil nilS nilS)] (w203.alloc (.cells (dvCells nilS dvNil nilS nilS).toArray 27))) := (HS203.out).put 27 (dvCells nilS dvNil nilS nilS)
            refine hK.out _ _ (HS204.out.pick [1] rfl) (fun hHeld => ?_)
            clear hK K
            generalize (w203.alloc (.cells (dvCells nilS dvNil nilS nilS).toArray 27)) = w204 at *
            generalize w203.heap.size = B24 at *
            try simp only [Act.put, List.setIfInBounds_toArray, List.set_cons_zero, List.set_cons_succ]
            refine wpAnyH_ready (rs := [8]) (by kernel_rfl) (by simp) ?_
            refine AllReadyH.cons (o := { dst := none, op := Op.store 27 (Operand.tmp 16) (Operand.tmp 99), type := 0, pos := "more.go:31", after := #[{ on := 7, ground := Ground.data }, { on := 5, ground := Ground.data }, { on := 3, ground := Ground.chain }, { on := 0, ground := Ground.phase }, { on := 1, ground := Ground.phase }, { on := 2, ground := Ground.phase }, { on := 3, ground := Ground.phase }, { on := 4, ground := Ground.phase }, { on := 5, ground := Ground.phase }, { on := 6, ground := Ground.textOnly Departure.lateStores }, { on := 7, ground := Ground.phase }], guard := none }) rfl (fun K hK => ?_) (AllReadyH.nil)
            rw [if_pos (by rfl)]
            refine wp_store_ob 27 (.tmp 16) (.tmp 99) B24 (dvCells (.slice ape dvNil.pages.length cpe) dvNil (.slice aue dvNil.unread.length cue) (.slice afe dvNil.faults.length cfe)) (dvCells nilS dvNil nilS nilS) 27 rfl rfl rfl rfl ((HS204.out).get 4 rfl) (info_dv) (rfl) ((oneCell_dv _ _ _ _ _ _ _ _ _ _)) ?_
            have HS205 : Hid (Hp w [.cd C, .ob B1 27 (dvCells (.slice apd d.pages.length cpd) d (.slice aud d.unread.length cud) (.slice afd d.faults.length cfd)), .rd Rd, .rd Re, .ob B24 27 (dvCells (.slice ape dvNil.pages.length cpe) dvNil (.slice aue dvNil.unread.length cue) (.slice afe dvNil.faults.length cfe))] (w204.setRow B24 (dvCells (.slice ape dvNil.pages.length cpe) dvNil (.slice aue dvNil.unread.length cue) (.slice afe dvNil.faults.length cfe)).toArray)) := (HS204.out).row 4 rfl (dvCells (.slice ape dvNil.pages.length cpe) dvNil (.slice aue dvNil.unread.length cue) (.slice afe dvNil.faults.length cfe))
            refine hK.out _ _ (HS205.out.pick [1] rfl) (fun hHeld => ?_)
            clear hK K
            generalize (w204.setRow B24 (dvCells (.slice ape dvNil.pages.length cpe) dvNil (.slice aue dvNil.unread.length cue) (.slice afe dvNil.faults.length cfe)).toArray) = w205 at *
            try simp only [Act.put, List.setIfInBounds_toArray, List.set_cons_zero, List.set_cons_succ]
            refine wpAnyH_take (i := 9) (oi := { dst := some 17, op := Op.assign (Operand.tmp 100), type := 35, pos := "more.go:31", after := #[{ on := 6, ground := Ground.data }, { on := 8, ground := Ground.chain }, { on := 0, ground := Ground.phase }, { on := 1, ground := Ground.phase }, { on := 2, ground := Ground.phase }, { on := 3, ground := Ground.phase }, { on := 4, ground := Ground.phase }, { on := 5, ground := Ground.phase }, { on := 6, ground := Ground.phase }, { on := 7, ground := Ground.phase }, { on := 8, ground := Ground.phase }], guard := none }) (v := ?q25v) rfl (by kernel_rfl) (by kernel_rfl) (by kernel_rfl) (fun _ _ _ h => h) (Or.inl ⟨by rfl, ?q25h⟩) hHeld ?q25r
            case q25h => (intro wq hSw; clear hSw; go_simp; try with_reducible rfl)
            try simp only [Act.put, List.setIfInBounds_toArray, List.set_cons_zero, List.set_cons_succ]
            refine wpAnyH_done (by kernel_rfl) ?_ _
            have HS206 : Hid (Hp w [.cd C, .ob B1 27 (dvCells (.slice apd d.pages.length cpd) d (.slice aud d.unread.length cud) (.slice afd d.faults.length cfd)), .rd Rd, .ob B24 27 (dvCells (.slice ape dvNil.pages.length cpe) dvNil (.slice aue dvNil.unread.length cue) (.slice afe dvNil.faults.length cfe)), .rd Re] w205) := HS205.out.pull [0, 1, 2, 4, 3] rfl (pull_nd HS205.out.nd [0, 1, 2, 4, 3] rfl (by decide))
            clear HS205
            go_wp2_with fail
            go_meet
            exact ⟨B24, ape, cpe, aue, cue, afe, cfe, Re, rfl, rfl, HS206.out⟩
          · rw [if_pos (by rfl)]
            refine wp_alloc_ob 27 (dvCells nilS dvNil nilS nilS) rfl alloc_dv ?_
            have HS203 : Hid (Hp w [.cd C, .ob B1 27 (dvCells (.slice apd d.pages.length cpd) d (.slice aud d.unread.length cud) (.slice afd d.faults.length cfd)), .rd Rd, .ob (w202.heap.size) 27 (dvCells nilS dvNil nilS nilS)] (w202.alloc (.cells (dvCells nilS dvNil nilS nilS).toArray 27))) := (HS202.out).put 27 (dvCells nilS dvNil nilS nilS)
            refine hK.out _ _ (HS203.out.pick [1] rfl) (fun hHeld => ?_)
            clear hK K
            generalize (w202.alloc (.cells (dvCells nilS dvNil nilS nilS).toArray 27)) = w203 at *
            generalize w202.heap.size = B24 at *
            try simp only [Act.put, List.setIfInBounds_toArray, List.set_cons_zero, List.set_cons_succ]
            refine wpAnyH_ready (rs := [3]) (by kernel_rfl) (by simp) ?_
            refine AllReadyH.cons (o := { dst := some 98, op := Op.call { callee := Callee.value (Operand.func 20), args := #[Operand.tmp 95, Operand.const (Value.int IntKind.i64 0), Operand.tmp 97], argTypes := #[27, 3, 9] }, type := 36, pos := "more.go:31", after := #[{ on := 0, ground := Ground.data }, { on := 2, ground := Ground.data }, { on := 2, ground := Ground.chain }], guard := none }) rfl (fun K hK => ?_) (AllReadyH.nil)
            go_simp
            go_wp2_with (go_at_call 20; refine (dv_as (HQ1.out.2.1 s1) (write_any 0 s1 _ HDv.out ((HS203.out).reads 2 rfl) HDd.out.ok.goodDv HSm_s1.out HDd.out.ok.pg HDd.out.ok.fl)).mono ?_; rintro e w204 ⟨pe, ue, fe, Re, rfl, hrd, hin, hnew, hb⟩)
            obtain ⟨ape, cpe, rfl, _⟩ := hrd.pages
            obtain ⟨aue, cue, rfl, _⟩ := hrd.unread
            obtain ⟨afe, cfe, rfl, _⟩ := hrd.faults
            have HDve := Lib.hid hrd
            have HS204 : Hid (Hp w [.cd C, .ob B1 27 (dvCells (.slice apd d.pages.length cpd) d (.slice aud d.unread.length cud) (.slice afd d.faults.length cfd)), .rd Rd, .ob B24 27 (dvCells nilS dvNil nilS nilS), .rd Re] w204) := (HS203.out).addrd hb Re hin (fun r hr => (hnew r hr).elim .inl (fun h => .inr ⟨.rd Rd, List.mem_of_getElem? (i := 2) rfl, List.mem_map.2 ⟨r, h, rfl⟩⟩))
            refine hK.out _ _ (HS204.out.pick [1] rfl) (fun hHeld => ?_)
            clear hK K hb hin hnew hrd
            try simp only [Act.put, List.setIfInBounds_toArray, List.set_cons_zero, List.set_cons_succ]
            refine wpAnyH_take (i := 4) (oi := { dst := some 94, op := Op.move (Operand.tmp 98), type := 36, pos := "more.go:31", after := #[{ on := 3, ground := Ground.data }], guard := none }) (v := ?q26v) rfl (by kernel_rfl) (by kernel_rfl) (by kernel_rfl) (fun _ _ _ h => h) (Or.inl ⟨by rfl, ?q26h⟩) hHeld ?q26r
            case q26h => (intro wq hSw; clear hSw; go_simp; try with_reducible rfl)
            try simp only [Act.put, List.setIfInBounds_toArray, List.set_cons_zero, List.set_cons_succ]
            refine wpAnyH_take (i := 5) (oi := { dst := some 99, op := Op.extract (Operand.tmp 94) 0, type := 27, pos := "more.go:31", after := #[{ on := 4, ground := Ground.data }], guard := none }) (v := ?q27v) rfl (by kernel_rfl) (by kernel_rfl) (by kernel_rfl) (fun _ _ _ h => h) (Or.inl ⟨by rfl, ?q27h⟩) hHeld ?q27r
            case q27h => (intro wq hSw; clear hSw; go_simp; try with_reducible rfl)
            try simp only [Act.put, List.setIfInBounds_toArray, List.set_cons_zero, List.set_cons_succ]
            refine wpAnyH_take (i := 6) (oi := { dst := some 100, op := Op.extract (Operand.tmp 94) 1, type := 35, pos := "more.go:31", after := #[{ on := 4, ground := Ground.data }, { on := 8, ground := Ground.gcOnly Departure.lateStores }], guard := none }) (v := ?q28v) rfl (by kernel_rfl) (by kernel_rfl) (by kernel_rfl) (fun _ _ _ h => h) (Or.inl ⟨by rfl, ?q28h⟩) hHeld ?q28r
            case q28h => (intro wq hSw; clear hSw; go_simp; try with_reducible rfl)
            try simp only [Act.put, List.setIfInBounds_toArray, List.set_cons_zero, List.set_cons_succ]
            refine wpAnyH_ready (rs := [8]) (by kernel_rfl) (by simp) ?_
            refine AllReadyH.cons (o := { dst := none, op := Op.store 27 (Operand.tmp 16) (Operand.tmp 99), type := 0, pos := "more.go:31", after := #[{ on := 7, ground := Ground.data }, { on := 5, ground := Ground.data }, { on := 3, ground := Ground.chain }, { on := 0, ground := Ground.phase }, { on := 1, ground := Ground.phase }, { on := 2, ground := Ground.phase }, { on := 3, ground := Ground.phase }, { on := 4, ground := Ground.phase }, { on := 5, ground := Ground.phase }, { on := 6, ground := Ground.textOnly Departure.lateStores }, { on := 7, ground := Ground.phase }], guard := none }) rfl (fun K hK => ?_) (AllReadyH.nil)
            rw [if_pos (by rfl)]
            refine wp_store_ob 27 (.tmp 16) (.tmp 99) B24 (dvCells (.slice ape dvNil.pages.length cpe) dvNil (.slice aue dvNil.unread.length cue) (.slice afe dvNil.faults.length cfe)) (dvCells nilS dvNil nilS nilS) 27 rfl rfl rfl rfl ((HS204.out).get 3 rfl) (info_dv) (rfl) ((oneCell_dv _ _ _ _ _ _ _ _ _ _)) ?_
            have HS205 : Hid (Hp w [.cd C, .ob B1 27 (dvCells (.slice apd d.pages.length cpd) d (.slice aud d.unread.length cud) (.slice afd d.faults.length cfd)), .rd Rd, .ob B24 27 (dvCells (.slice ape dvNil.pages.length cpe) dvNil (.slice aue dvNil.unread.length cue) (.slice afe dvNil.faults.length cfe)), .rd Re] (w204.setRow B24 (dvCells (.slice ape dvNil.pages.length cpe) dvNil (.slice aue dvNil.unread.length cue) (.slice afe dvNil.faults.length cfe)).toArray)) := (HS204.out).row 3 rfl (dvCells (.slice ape dvNil.pages.length cpe) dvNil (.slice aue dvNil.unread.length cue) (.slice afe dvNil.faults.length cfe))
            refine hK.out _ _ (HS205.out.pick [1] rfl) (fun hHeld => ?_)
            clear hK K
            generalize (w204.setRow B24 (dvCells (.slice ape dvNil.pages.length cpe) dvNil (.slice aue dvNil.unread.length cue) (.slice afe dvNil.faults.length cfe)).toArray) = w205 at *
            try simp only [Act.put, List.setIfInBounds_toArray, List.set_cons_zero, List.set_cons_succ]
            refine wpAnyH_take (i := 9) (oi := { dst := some 17, op := Op.assign (Operand.tmp 100), type := 35, pos := "more.go:31", after := #[{ on := 6, ground := Ground.data }, { on := 8, ground := Ground.chain }, { on := 0, ground := Ground.phase }, { on := 1, ground := Ground.phase }, { on := 2, ground := Ground.phase }, { on := 3, ground := Ground.phase }, { on := 4, ground := Ground.phase }, { on := 5, ground := Ground.phase }, { on := 6, ground := Ground.phase }, { on := 7, ground := Ground.phase }, { on := 8, ground := Ground.phase }], guard := none }) (v := ?q29v) rfl (by kernel_rfl) (by kernel_rfl) (by kernel_rfl) (fun _ _ _ h => h) (Or.inl ⟨by rfl, ?q29h⟩) hHeld ?q29r
            case q29h => (intro wq hSw; clear hSw; go_simp; try with_reducible rfl)
            try simp only [Act.put, List.setIfInBounds_toArray, List.set_cons_zero, List.set_cons_succ]
            refine wpAnyH_done (by kernel_rfl) ?_ _
            go_wp2_with fail
            go_meet
            exact ⟨B24, ape, cpe, aue, cue, afe, cfe, Re, rfl, rfl, HS205.out⟩
        · rw [if_pos (by rfl)]
          refine wp_alloc_ob 27 (dvCells nilS dvNil nilS nilS) rfl alloc_dv ?_
          have HS202 : Hid (Hp w [.cd C, .ob B1 27 (dvCells (.slice apd d.pages.length cpd) d (.slice aud d.unread.length cud) (.slice afd d.faults.length cfd)), .rd Rd, .ob (w201.drew.heap.size) 27 (dvCells nilS dvNil nilS nilS)] (w201.drew.alloc (.cells (dvCells nilS dvNil nilS nilS).toArray 27))) := ((HS201.out).drew).put 27 (dvCells nilS dvNil nilS nilS)
          refine hK.out _ _ (HS202.out.pick [1] rfl) (fun hHeld => ?_)
          clear hK K
          generalize (w201.drew.alloc (.cells (dvCells nilS dvNil nilS nilS).toArray 27)) = w202 at *
          generalize w201.drew.heap.size = B24 at *
          try simp only [Act.put, List.setIfInBounds_toArray, List.set_cons_zero, List.set_cons_succ]
          refine wpAnyH_ready (rs := [2]) (by kernel_rfl) (by simp) ?_
          refine AllReadyH.cons (o := { dst := some 97, op := Op.call { callee := Callee.value (Operand.func 18), args := #[Operand.tmp 96], argTypes := #[32] }, type := 9, pos := "more.go:31", after := #[{ on := 1, ground := Ground.data }], guard := none }) rfl (fun K hK => ?_) (AllReadyH.nil)
          go_simp
          go_wp2_with (go_at_call 18; refine (bytes_any C _ ((HS202.out).codes 0 rfl)).mono ?_; rintro e w203 ⟨s1, rfl, hs2, hb, hc⟩)
          have HS203 : Hid (Hp w [.cd C, .ob B1 27 (dvCells (.slice apd d.pages.length cpd) d (.slice aud d.unread.length cud) (.slice afd d.faults.length cfd)), .rd Rd, .ob B24 27 (dvCells nilS dvNil nilS nilS)] w203) := (HS202.out).draws 0 rfl hb hc
          refine hK.out _ _ (HS203.out.pick [1] rfl) (fun hHeld => ?_)
          clear hK K hb hc
          have HSm_s1 : Hid (s1.size ≤ maxLen) := by show _ ≤ _; rw [hs2]; decide
          have HSz_s1 := Lib.hid hs2
          clear hs2
          try simp only [Act.put, List.setIfInBounds_toArray, List.set_cons_zero, List.set_cons_succ]
          refine wpAnyH_ready (rs := [3]) (by kernel_rfl) (by simp) ?_
          refine AllReadyH.cons (o := { dst := some 98, op := Op.call { callee := Callee.value (Operand.func 20), args := #[Operand.tmp 95, Operand.const (Value.int IntKind.i64 0), Operand.tmp 97], argTypes := #[27, 3, 9] }, type := 36, pos := "more.go:31", after := #[{ on := 0, ground := Ground.data }, { on := 2, ground := Ground.data }, { on := 2, ground := Ground.chain }], guard := none }) rfl (fun K hK => ?_) (AllReadyH.nil)
          go_simp
          go_wp2_with (go_at_call 20; refine (dv_as (HQ1.out.2.1 s1) (write_any 0 s1 _ HDv.out ((HS203.out).reads 2 rfl) HDd.out.ok.goodDv HSm_s1.out HDd.out.ok.pg HDd.out.ok.fl)).mono ?_; rintro e w204 ⟨pe, ue, fe, Re, rfl, hrd, hin, hnew, hb⟩)
          obtain ⟨ape, cpe, rfl, _⟩ := hrd.pages
          obtain ⟨aue, cue, rfl, _⟩ := hrd.unread
          obtain ⟨afe, cfe, rfl, _⟩ := hrd.faults
          have HDve := Lib.hid hrd
          have HS204 : Hid (Hp w [.cd C, .ob B1 27 (dvCells (.slice apd d.pages.length cpd) d (.slice aud d.unread.length cud) (.slice afd d.faults.length cfd)), .rd Rd, .ob B24 27 (dvCells nilS dvNil nilS nilS), .rd Re] w204) := (HS203.out).addrd hb Re hin (fun r hr => (hnew r hr).elim .inl (fun h => .inr ⟨.rd Rd, List.mem_of_getElem? (i := 2) rfl, List.mem_map.2 ⟨r, h, rfl⟩⟩))
          refine hK.out _ _ (HS204.out.pick [1] rfl) (fun hHeld => ?_)
          clear hK K hb hin hnew hrd
          try simp only [Act.put, List.setIfInBounds_toArray, List.set_cons_zero, List.set_cons_succ]
          refine wpAnyH_take (i := 4) (oi := { dst := some 94, op := Op.move (Operand.tmp 98), type := 36, pos := "more.go:31", after := #[{ on := 3, ground := Ground.data }], guard := none }) (v := ?q30v) rfl (by kernel_rfl) (by kernel_rfl) (by kernel_rfl) (fun _ _ _ h => h) (Or.inl ⟨by rfl, ?q30h⟩) hHeld ?q30r
          case q30h => (intro wq hSw; clear hSw; go_simp; try with_reducible rfl)
          try simp only [Act.put, List.setIfInBounds_toArray, List.set_cons_zero, List.set_cons_succ]
          refine wpAnyH_take (i := 5) (oi := { dst := some 99, op := Op.extract (Operand.tmp 94) 0, type := 27, pos := "more.go:31", after := #[{ on := 4, ground := Ground.data }], guard := none }) (v := ?q31v) rfl (by kernel_rfl) (by kernel_rfl) (by kernel_rfl) (fun _ _ _ h => h) (Or.inl ⟨by rfl, ?q31h⟩) hHeld ?q31r
          case q31h => (intro wq hSw; clear hSw; go_simp; try with_reducible rfl)
          try simp only [Act.put, List.setIfInBounds_toArray, List.set_cons_zero, List.set_cons_succ]
          refine wpAnyH_take (i := 6) (oi := { dst := some 100, op := Op.extract (Operand.tmp 94) 1, type := 35, pos := "more.go:31", after := #[{ on := 4, ground := Ground.data }, { on := 8, ground := Ground.gcOnly Departure.lateStores }], guard := none }) (v := ?q32v) rfl (by kernel_rfl) (by kernel_rfl) (by kernel_rfl) (fun _ _ _ h => h) (Or.inl ⟨by rfl, ?q32h⟩) hHeld ?q32r
          case q32h => (intro wq hSw; clear hSw; go_simp; try with_reducible rfl)
          try simp only [Act.put, List.setIfInBounds_toArray, List.set_cons_zero, List.set_cons_succ]
          refine wpAnyH_ready (rs := [8]) (by kernel_rfl) (by simp) ?_
          refine AllReadyH.cons (o := { dst := none, op := Op.store 27 (Operand.tmp 16) (Operand.tmp 99), type := 0, pos := "more.go:31", after := #[{ on := 7, ground := Ground.data }, { on := 5, ground := Ground.data }, { on := 3, ground := Ground.chain }, { on := 0, ground := Ground.phase }, { on := 1, ground := Ground.phase }, { on := 2, ground := Ground.phase }, { on := 3, ground := Ground.phase }, { on := 4, ground := Ground.phase }, { on := 5, ground := Ground.phase }, { on := 6, ground := Ground.textOnly Departure.lateStores }, { on := 7, ground := Ground.phase }], guard := none }) rfl (fun K hK => ?_) (AllReadyH.nil)
          rw [if_pos (by rfl)]
          refine wp_store_ob 27 (.tmp 16) (.tmp 99) B24 (dvCells (.slice ape dvNil.pages.length cpe) dvNil (.slice aue dvNil.unread.length cue) (.slice afe dvNil.faults.length cfe)) (dvCells nilS dvNil nilS nilS) 27 rfl rfl rfl rfl ((HS204.out).get 3 rfl) (info_dv) (rfl) ((oneCell_dv _ _ _ _ _ _ _ _ _ _)) ?_
          have HS205 : Hid (Hp w [.cd C, .ob B1 27 (dvCells (.slice apd d.pages.length cpd) d (.slice aud d.unread.length cud) (.slice afd d.faults.length cfd)), .rd Rd, .ob B24 27 (dvCells (.slice ape dvNil.pages.length cpe) dvNil (.slice aue dvNil.unread.length cue) (.slice afe dvNil.faults.length cfe)), .rd Re] (w204.setRow B24 (dvCells (.slice ape dvNil.pages.length cpe) dvNil (.slice aue dvNil.unread.length cue) (.slice afe dvNil.faults.length cfe)).toArray)) := (HS204.out).row 3 rfl (dvCells (.slice ape dvNil.pages.length cpe) dvNil (.slice aue dvNil.unread.length cue) (.slice afe dvNil.faults.length cfe))
          refine hK.out _ _ (HS205.out.pick [1] rfl) (fun hHeld => ?_)
          clear hK K
          generalize (w204.setRow B24 (dvCells (.slice ape dvNil.pages.length cpe) dvNil (.slice aue dvNil.unread.length cue) (.slice afe dvNil.faults.length cfe)).toArray) = w205 at *
          try simp only [Act.put, List.setIfInBounds_toArray, List.set_cons_zero, List.set_cons_succ]
          refine wpAnyH_take (i := 9) (oi := { dst := some 17, op := Op.assign (Operand.tmp 100), type := 35, pos := "more.go:31", after := #[{ on := 6, ground := Ground.data }, { on := 8, ground := Ground.chain }, { on := 0, ground := Ground.phase }, { on := 1, ground := Ground.phase }, { on := 2, ground := Ground.phase }, { on := 3, ground := Ground.phase }, { on := 4, ground := Ground.phase }, { on := 5, ground := Ground.phase }, { on := 6, ground := Ground.phase }, { on := 7, ground := Ground.phase }, { on := 8, ground := Ground.phase }], guard := none }) (v := ?q33v) rfl (by kernel_rfl) (by kernel_rfl) (by kernel_rfl) (fun _ _ _ h => h) (Or.inl ⟨by rfl, ?q33h⟩) hHeld ?q33r
          case q33h => (intro wq hSw; clear hSw; go_simp; try with_reducible rfl)
          try simp only [Act.put, List.setIfInBounds_toArray, List.set_cons_zero, List.set_cons_succ]
          refine wpAnyH_done (by kernel_rfl) ?_ _
          go_wp2_with fail
          go_meet
          exact ⟨B24, ape, cpe, aue, cue, afe, cfe, Re, rfl, rfl, HS205.out⟩
      case rest =>
        obtain ⟨B45, ape, cpe, aue, cue, afe, cfe, Re, rfl, rfl, hs⟩ := hcut
        have HS225 : Hid (Hp w [.cd C, .ob B1 27 (dvCells (.slice apd d.pages.length cpd) d (.slice aud d.unread.length cud) (.slice afd d.faults.length cfd)), .rd Rd, .ob B45 27 (dvCells (.slice ape dvNil.pages.length cpe) dvNil (.slice aue dvNil.unread.length cue) (.slice afe dvNil.faults.length cfe)), .rd Re] wc) := hs
        clear hs HS201
        generalize wc = w226 at *
        have HS226 : Hid (Hp w [.cd C, .ob B1 27 (dvCells (.slice apd d.pages.length cpd) d (.slice aud d.unread.length cud) (.slice afd d.faults.length cfd)), .rd Rd] w226) := HS225.out.pull [0, 1, 2] rfl (pull_nd HS225.out.nd [0, 1, 2] rfl (by decide))
        clear HS225
        go_upto_region 19 with (fail)
        go_cut [18, 19] (fun s18 s19 wx => ∃ bq0, ∃ (apg : Option Addr) (cpg : Nat) (aug : Option Addr) (cug : Nat) (afg : Option Addr) (cfg : Nat) (Rg : List Rng), s18 = .pointer (some ⟨bq0, 0, none⟩) ∧ s19 = .int .i64 10 ∧ Hp w [.cd C, .ob B1 27 (dvCells (.slice apd d.pages.length cpd) d (.slice aud d.unread.length cud) (.slice afd d.faults.length cfd)), .rd Rd, .ob bq0 27 (dvCells (.slice apg dvNil.pages.length cpg) dvNil (.slice aug dvNil.unread.length cug) (.slice afg dvNil.faults.length cfg)), .rd Rg] wx)
        case first =>
          refine wp_region_held_drew (S := fun w' => Hold w.heap.size [.ob B1 27 (dvCells (.slice apd d.pages.length cpd) d (.slice aud d.unread.length cud) (.slice afd d.faults.length cfd))] w') (by kernel_rfl) ((HS226.out).drew.pick [1] rfl) (fun hHeld => ?_)
          refine wpAnyH_take (i := 0) (oi := { dst := some 102, op := Op.load 27 (Operand.tmp 6), type := 27, pos := "more.go:32", after := #[], guard := none }) rfl (by kernel_rfl) (by kernel_rfl) (by kernel_rfl) (fun _ _ _ h => h) (yieldsIf_load_mid (by rfl) 27 (.tmp 6) rfl B1 0 rfl (dvCells (.slice apd d.pages.length cpd) d (.slice aud d.unread.length cud) (.slice afd d.faults.length cfd)) _ (fun _ h => h.whole 0 rfl) HUD.out rfl (info_dv)) hHeld ?_
          try simp only [Act.put, List.setIfInBounds_toArray, List.set_cons_zero, List.set_cons_succ]
          refine wpAnyH_take (i := 1) (oi := { dst := some 103, op := Op.move (Operand.tmp 5), type := 32, pos := "more.go:32", after := #[], guard := none }) (v := ?q35v) rfl (by kernel_rfl) (by kernel_rfl) (by kernel_rfl) (fun _ _ _ h => h) (Or.inl ⟨by rfl, ?q35h⟩) hHeld ?q35r
          case q35h => (intro wq hSw; clear hSw; go_simp; try with_reducible rfl)
          try simp only [Act.put, List.setIfInBounds_toArray, List.set_cons_zero, List.set_cons_succ]
          refine wpAnyH_ready (rs := [2, 7]) (by kernel_rfl) (by simp) ?_
          refine AllReadyH.cons (o := { dst := some 104, op := Op.call { callee := Callee.value (Operand.func 18), args := #[Operand.tmp 103], argTypes := #[32] }, type := 9, pos := "more.go:32", after := #[{ on := 1, ground := Ground.data }], guard := none }) rfl (fun K hK => ?_) (AllReadyH.cons (o := { dst := some 18, op := Op.alloc 27, type := 0, pos := "more.go:32", after := #[], guard := none }) rfl (fun K hK => ?_) (AllReadyH.nil))
          · go_simp
            go_wp2_with (go_at_call 18; refine (bytes_any C _ (((HS226.out).drew).codes 0 rfl)).mono ?_; rintro e w227 ⟨s2, rfl, hs2, hb, hc⟩)
            have HS227 : Hid (Hp w [.cd C, .ob B1 27 (dvCells (.slice apd d.pages.length cpd) d (.slice aud d.unread.length cud) (.slice afd d.faults.length cfd)), .rd Rd] w227) := ((HS226.out).drew).draws 0 rfl hb hc
            refine hK.out _ _ (HS227.out.pick [1] rfl) (fun hHeld => ?_)
            clear hK K hb hc
            have HSm_s2 : Hid (s2.size ≤ maxLen) := by show _ ≤ _; rw [hs2]; decide
            have HSz_s2 := Lib.hid hs2
            clear hs2
            try simp only [Act.put, List.setIfInBounds_toArray, List.set_cons_zero, List.set_cons_succ]
            refine wpAnyH_ready (rs := [3, 7]) (by kernel_rfl) (by simp) ?_
            refine AllReadyH.cons (o := { dst := some 105, op := Op.call { callee := Callee.value (Operand.func 27), args := #[Operand.tmp 102, Operand.const (Value.int IntKind.i64 0), Operand.tmp 104, Operand.const (Value.int IntKind.i64 5)], argTypes := #[27, 3, 9, 3] }, type := 36, pos := "more.go:32", after := #[{ on := 0, ground := Ground.data }, { on := 2, ground := Ground.data }, { on := 2, ground := Ground.chain }], guard := none }) rfl (fun K hK => ?_) (AllReadyH.cons (o := { dst := some 18, op := Op.alloc 27, type := 0, pos := "more.go:32", after := #[], guard := none }) rfl (fun K hK => ?_) (AllReadyH.nil))
            · go_simp
              go_wp2_with (go_at_call 27; refine (dv_as (HQ1.out.2.2.1 s2) (tear_any 0 s2 5 _ HDv.out ((HS227.out).reads 2 rfl) HDd.out.ok.goodDv HSm_s2.out HDd.out.ok.pg HDd.out.ok.fl)).mono ?_; rintro e w228 ⟨pg, ug, fg, Rg, rfl, hrd, hin, hnew, hb⟩)
              obtain ⟨apg, cpg, rfl, _⟩ := hrd.pages
              obtain ⟨aug, cug, rfl, _⟩ := hrd.unread
              obtain ⟨afg, cfg, rfl, _⟩ := hrd.faults
              have HDvg := Lib.hid hrd
              have HS228 : Hid (Hp w [.cd C, .ob B1 27 (dvCells (.slice apd d.pages.length cpd) d (.slice aud d.unread.length cud) (.slice afd d.faults.length cfd)), .rd Rd, .rd Rg] w228) := (HS227.out).addrd hb Rg hin (fun r hr => (hnew r hr).elim .inl (fun h => .inr ⟨.rd Rd, List.mem_of_getElem? (i := 2) rfl, List.mem_map.2 ⟨r, h, rfl⟩⟩))
              refine hK.out _ _ (HS228.out.pick [1] rfl) (fun hHeld => ?_)
              clear hK K hb hin hnew hrd
              try simp only [Act.put, List.setIfInBounds_toArray, List.set_cons_zero, List.set_cons_succ]
              refine wpAnyH_take (i := 4) (oi := { dst := some 101, op := Op.move (Operand.tmp 105), type := 36, pos := "more.go:32", after := #[{ on := 3, ground := Ground.data }], guard := none }) (v := ?q36v) rfl (by kernel_rfl) (by kernel_rfl) (by kernel_rfl) (fun _ _ _ h => h) (Or.inl ⟨by rfl, ?q36h⟩) hHeld ?q36r
              case q36h => (intro wq hSw; clear hSw; go_simp; try with_reducible rfl)
              try simp only [Act.put, List.setIfInBounds_toArray, List.set_cons_zero, List.set_cons_succ]
              refine wpAnyH_take (i := 5) (oi := { dst := some 106, op := Op.extract (Operand.tmp 101) 0, type := 27, pos := "more.go:32", after := #[{ on := 4, ground := Ground.data }], guard := none }) (v := ?q37v) rfl (by kernel_rfl) (by kernel_rfl) (by kernel_rfl) (fun _ _ _ h => h) (Or.inl ⟨by rfl, ?q37h⟩) hHeld ?q37r
              case q37h => (intro wq hSw; clear hSw; go_simp; try with_reducible rfl)
              try simp only [Act.put, List.setIfInBounds_toArray, List.set_cons_zero, List.set_cons_succ]
              refine wpAnyH_take (i := 6) (oi := { dst := some 107, op := Op.extract (Operand.tmp 101) 1, type := 35, pos := "more.go:32", after := #[{ on := 4, ground := Ground.data }, { on := 8, ground := Ground.gcOnly Departure.lateStores }], guard := none }) (v := ?q38v) rfl (by kernel_rfl) (by kernel_rfl) (by kernel_rfl) (fun _ _ _ h => h) (Or.inl ⟨by rfl, ?q38h⟩) hHeld ?q38r
              case q38h => (intro wq hSw; clear hSw; go_simp; try with_reducible rfl)
              try simp only [Act.put, List.setIfInBounds_toArray, List.set_cons_zero, List.set_cons_succ]
              refine wpAnyH_ready (rs := [7]) (by kernel_rfl) (by simp) ?_
              refine AllReadyH.cons (o := { dst := some 18, op := Op.alloc 27, type := 0, pos := "more.go:32", after := #[], guard := none }) rfl (fun K hK => ?_) (AllReadyH.nil)
              rw [if_pos (by rfl)]
              refine wp_alloc_ob 27 (dvCells nilS dvNil nilS nilS) rfl alloc_dv ?_
              have HS229 : Hid (Hp w [.cd C, .ob B1 27 (dvCells (.slice apd d.pages.length cpd) d (.slice aud d.unread.length cud) (.slice afd d.faults.length cfd)), .rd Rd, .rd Rg, .ob (w228.heap.size) 27 (dvCells nilS dvNil nilS nilS)] (w228.alloc (.cells (dvCells nilS dvNil nilS nilS).toArray 27))) := (HS228.out).put 27 (dvCells nilS dvNil nilS nilS)
              refine hK.out _ _ (HS229.out.pick [1] rfl) (fun hHeld => ?_)
              clear hK K
              generalize (w228.alloc (.cells (dvCells nilS dvNil nilS nilS).toArray 27)) = w229 at *
              generalize w228.heap.size = B46 at *
              try simp only [Act.put, List.setIfInBounds_toArray, List.set_cons_zero, List.set_cons_succ]
              refine wpAnyH_ready (rs := [8]) (by kernel_rfl) (by simp) ?_
              refine AllReadyH.cons (o := { dst := none, op := Op.store 27 (Operand.tmp 18) (Operand.tmp 106), type := 0, pos := "more.go:32", after := #[{ on := 7, ground := Ground.data }, { on := 5, ground := Ground.data }, { on := 3, ground := Ground.chain }, { on := 0, ground := Ground.phase }, { on := 1, ground := Ground.phase }, { on := 2, ground := Ground.phase }, { on := 3, ground := Ground.phase }, { on := 4, ground := Ground.phase }, { on := 5, ground := Ground.phase }, { on := 6, ground := Ground.textOnly Departure.lateStores }, { on := 7, ground := Ground.phase }], guard := none }) rfl (fun K hK => ?_) (AllReadyH.nil)
              rw [if_pos (by rfl)]
              refine wp_store_ob 27 (.tmp 18) (.tmp 106) B46 (dvCells (.slice apg dvNil.pages.length cpg) dvNil (.slice aug dvNil.unread.length cug) (.slice afg dvNil.faults.length cfg)) (dvCells nilS dvNil nilS nilS) 27 rfl rfl rfl rfl ((HS229.out).get 4 rfl) (info_dv) (rfl) ((oneCell_dv _ _ _ _ _ _ _ _ _ _)) ?_
              have HS230 : Hid (Hp w [.cd C, .ob B1 27 (dvCells (.slice apd d.pages.length cpd) d (.slice aud d.unread.length cud) (.slice afd d.faults.length cfd)), .rd Rd, .rd Rg, .ob B46 27 (dvCells (.slice apg dvNil.pages.length cpg) dvNil (.slice aug dvNil.unread.length cug) (.slice afg dvNil.faults.length cfg))] (w229.setRow B46 (dvCells (.slice apg dvNil.pages.length cpg) dvNil (.slice aug dvNil.unread.length cug) (.slice afg dvNil.faults.length cfg)).toArray)) := (HS229.out).row 4 rfl (dvCells (.slice apg dvNil.pages.length cpg) dvNil (.slice aug dvNil.unread.length cug) (.slice afg dvNil.faults.length cfg))
              refine hK.out _ _ (HS230.out.pick [1] rfl) (fun hHeld => ?_)
              clear hK K
              generalize (w229.setRow B46 (dvCells (.slice apg dvNil.pages.length cpg) dvNil (.slice aug dvNil.unread.length cug) (.slice afg dvNil.faults.length cfg)).toArray) = w230 at *
              try simp only [Act.put, List.setIfInBounds_toArray, List.set_cons_zero, List.set_cons_succ]
              refine wpAnyH_take (i := 9) (oi := { dst := some 19, op := Op.assign (Operand.tmp 107), type := 35, pos := "more.go:32", after := #[{ on := 6, ground := Ground.data }, { on := 8, ground := Ground.chain }, { on := 0, ground := Ground.phase }, { on := 1, ground := Ground.phase }, { on := 2, ground := Ground.phase }, { on := 3, ground := Ground.phase }, { on := 4, ground := Ground.phase }, { on := 5, ground := Ground.phase }, { on := 6, ground := Ground.phase }, { on := 7, ground := Ground.phase }, { on := 8, ground := Ground.phase }], guard := none }) (v := ?q39v) rfl (by kernel_rfl) (by kernel_rfl) (by kernel_rfl) (fun _ _ _ h => h) (Or.inl ⟨by rfl, ?q39h⟩) hHeld ?q39r
              case q39h => (intro wq hSw; clear hSw; go_simp; try with_reducible rfl)
              try simp only [Act.put, List.setIfInBounds_toArray, List.set_cons_zero, List.set_cons_succ]
              refine wpAnyH_done (by kernel_rfl) ?_ _
              have HS231 : Hid (Hp w [.cd C, .ob B1 27 (dvCells (.slice apd d.pages.length cpd) d (.slice aud d.unread.length cud) (.slice afd d.faults.length cfd)), .rd Rd, .ob B46 27 (dvCells (.slice apg dvNil.pages.length cpg) dvNil (.slice aug dvNil.unread.length cug) (.slice afg dvNil.faults.length cfg)), .rd Rg] w230) := HS230.out.pull [0, 1, 2, 4, 3] rfl (pull_nd HS230.out.nd [0, 1, 2, 4, 3] rfl (by decide))
              clear HS230
              go_wp2_with fail
              go_meet
              exact ⟨B46, apg, cpg, aug, cug, afg, cfg, Rg, rfl, rfl, HS231.out⟩
            · rw [if_pos (by rfl)]
              refine wp_alloc_ob 27 (dvCells nilS dvNil nilS nilS) rfl alloc_dv ?_
              have HS228 : Hid (Hp w [.cd C, .ob B1 27 (dvCells (.slice apd d.pages.length cpd) d (.slice aud d.unread.length cud) (.slice afd d.faults.length cfd)), .rd Rd, .ob (w227.heap.size) 27 (dvCells nilS dvNil nilS nilS)] (w227.alloc (.cells (dvCells nilS dvNil nilS nilS).toArray 27))) := (HS227.out).put 27 (dvCells nilS dvNil nilS nilS)
              refine hK.out _ _ (HS228.out.pick [1] rfl) (fun hHeld => ?_)
              clear hK K
              generalize (w227.alloc (.cells (dvCells nilS dvNil nilS nilS).toArray 27)) = w228 at *
              generalize w227.heap.size = B46 at *
              try simp only [Act.put, List.setIfInBounds_toArray, List.set_cons_zero, List.set_cons_succ]
              refine wpAnyH_ready (rs := [3]) (by kernel_rfl) (by simp) ?_
              refine AllReadyH.cons (o := { dst := some 105, op := Op.call { callee := Callee.value (Operand.func 27), args := #[Operand.tmp 102, Operand.const (Value.int IntKind.i64 0), Operand.tmp 104, Operand.const (Value.int IntKind.i64 5)], argTypes := #[27, 3, 9, 3] }, type := 36, pos := "more.go:32", after := #[{ on := 0, ground := Ground.data }, { on := 2, ground := Ground.data }, { on := 2, ground := Ground.chain }], guard := none }) rfl (fun K hK => ?_) (AllReadyH.nil)
              go_simp
              go_wp2_with (go_at_call 27; refine (dv_as (HQ1.out.2.2.1 s2) (tear_any 0 s2 5 _ HDv.out ((HS228.out).reads 2 rfl) HDd.out.ok.goodDv HSm_s2.out HDd.out.ok.pg HDd.out.ok.fl)).mono ?_; rintro e w229 ⟨pg, ug, fg, Rg, rfl, hrd, hin, hnew, hb⟩)
              obtain ⟨apg, cpg, rfl, _⟩ := hrd.pages
              obtain ⟨aug, cug, rfl, _⟩ := hrd.unread
              obtain ⟨afg, cfg, rfl, _⟩ := hrd.faults
              have HDvg := Lib.hid hrd
              have HS229 : Hid (Hp w [.cd C, .ob B1 27 (dvCells (.slice apd d.pages.length cpd) d (.slice aud d.unread.length cud) (.slice afd d.faults.length cfd)), .rd Rd, .ob B46 27 (dvCells nilS dvNil nilS nilS), .rd Rg] w229) := (HS228.out).addrd hb Rg hin (fun r hr => (hnew r hr).elim .inl (fun h => .inr ⟨.rd Rd, List.mem_of_getElem? (i := 2) rfl, List.mem_map.2 ⟨r, h, rfl⟩⟩))
              refine hK.out _ _ (HS229.out.pick [1] rfl) (fun hHeld => ?_)
              clear hK K hb hin hnew hrd
              try simp only [Act.put, List.setIfInBounds_toArray, List.set_cons_zero, List.set_cons_succ]
              refine wpAnyH_take (i := 4) (oi := { dst := some 101, op := Op.move (Operand.tmp 105), type := 36, pos := "more.go:32", after := #[{ on := 3, ground := Ground.data }], guard := none }) (v := ?q40v) rfl (by kernel_rfl) (by kernel_rfl) (by kernel_rfl) (fun _ _ _ h => h) (Or.inl ⟨by rfl, ?q40h⟩) hHeld ?q40r
              case q40h => (intro wq hSw; clear hSw; go_simp; try with_reducible rfl)
              try simp only [Act.put, List.setIfInBounds_toArray, List.set_cons_zero, List.set_cons_succ]
              refine wpAnyH_take (i := 5) (oi := { dst := some 106, op := Op.extract (Operand.tmp 101) 0, type := 27, pos := "more.go:32", after := #[{ on := 4, ground := Ground.data }], guard := none }) (v := ?q41v) rfl (by kernel_rfl) (by kernel_rfl) (by kernel_rfl) (fun _ _ _ h => h) (Or.inl ⟨by rfl, ?q41h⟩) hHeld ?q41r
              case q41h => (intro wq hSw; clear hSw; go_simp; try with_reducible rfl)
              try simp only [Act.put, List.setIfInBounds_toArray, List.set_cons_zero, List.set_cons_succ]
              refine wpAnyH_take (i := 6) (oi := { dst := some 107, op := Op.extract (Operand.tmp 101) 1, type := 35, pos := "more.go:32", after := #[{ on := 4, ground := Ground.data }, { on := 8, ground := Ground.gcOnly Departure.lateStores }], guard := none }) (v := ?q42v) rfl (by kernel_rfl) (by kernel_rfl) (by kernel_rfl) (fun _ _ _ h => h) (Or.inl ⟨by rfl, ?q42h⟩) hHeld ?q42r
              case q42h => (intro wq hSw; clear hSw; go_simp; try with_reducible rfl)
              try simp only [Act.put, List.setIfInBounds_toArray, List.set_cons_zero, List.set_cons_succ]
              refine wpAnyH_ready (rs := [8]) (by kernel_rfl) (by simp) ?_
              refine AllReadyH.cons (o := { dst := none, op := Op.store 27 (Operand.tmp 18) (Operand.tmp 106), type := 0, pos := "more.go:32", after := #[{ on := 7, ground := Ground.data }, { on := 5, ground := Ground.data }, { on := 3, ground := Ground.chain }, { on := 0, ground := Ground.phase }, { on := 1, ground := Ground.phase }, { on := 2, ground := Ground.phase }, { on := 3, ground := Ground.phase }, { on := 4, ground := Ground.phase }, { on := 5, ground := Ground.phase }, { on := 6, ground := Ground.textOnly Departure.lateStores }, { on := 7, ground := Ground.phase }], guard := none }) rfl (fun K hK => ?_) (AllReadyH.nil)
              rw [if_pos (by rfl)]
              refine wp_store_ob 27 (.tmp 18) (.tmp 106) B46 (dvCells (.slice apg dvNil.pages.length cpg) dvNil (.slice aug dvNil.unread.length cug) (.slice afg dvNil.faults.length cfg)) (dvCells nilS dvNil nilS nilS) 27 rfl rfl rfl rfl ((HS229.out).get 3 rfl) (info_dv) (rfl) ((oneCell_dv _ _ _ _ _ _ _ _ _ _)) ?_
              have HS230 : Hid (Hp w [.cd C, .ob B1 27 (dvCells (.slice apd d.pages.length cpd) d (.slice aud d.unread.length cud) (.slice afd d.faults.length cfd)), .rd Rd, .ob B46 27 (dvCells (.slice apg dvNil.pages.length cpg) dvNil (.slice aug dvNil.unread.length cug) (.slice afg dvNil.faults.length cfg)), .rd Rg] (w229.setRow B46 (dvCells (.slice apg dvNil.pages.length cpg) dvNil (.slice aug dvNil.unread.length cug) (.slice afg dvNil.faults.length cfg)).toArray)) := (HS229.out).row 3 rfl (dvCells (.slice apg dvNil.pages.length cpg) dvNil (.slice aug dvNil.unread.length cug) (.slice afg dvNil.faults.length cfg))
              refine hK.out _ _ (HS230.out.pick [1] rfl) (fun hHeld => ?_)
              clear hK K
              generalize (w229.setRow B46 (dvCells (.slice apg dvNil.pages.length cpg) dvNil (.slice aug dvNil.unread.length cug) (.slice afg dvNil.faults.length cfg)).toArray) = w230 at *
              try simp only [Act.put, List.setIfInBounds_toArray, List.set_cons_zero, List.set_cons_succ]
              refine wpAnyH_take (i := 9) (oi := { dst := some 19, op := Op.assign (Operand.tmp 107), type := 35, pos := "more.go:32", after := #[{ on := 6, ground := Ground.data }, { on := 8, ground := Ground.chain }, { on := 0, ground := Ground.phase }, { on := 1, ground := Ground.phase }, { on := 2, ground := Ground.phase }, { on := 3, ground := Ground.phase }, { on := 4, ground := Ground.phase }, { on := 5, ground := Ground.phase }, { on := 6, ground := Ground.phase }, { on := 7, ground := Ground.phase }, { on := 8, ground := Ground.phase }], guard := none }) (v := ?q43v) rfl (by kernel_rfl) (by kernel_rfl) (by kernel_rfl) (fun _ _ _ h => h) (Or.inl ⟨by rfl, ?q43h⟩) hHeld ?q43r
              case q43h => (intro wq hSw; clear hSw; go_simp; try with_reducible rfl)
              try simp only [Act.put, List.setIfInBounds_toArray, List.set_cons_zero, List.set_cons_succ]
              refine wpAnyH_done (by kernel_rfl) ?_ _
              go_wp2_with fail
              go_meet
              exact ⟨B46, apg, cpg, aug, cug, afg, cfg, Rg, rfl, rfl, HS230.out⟩
          · rw [if_pos (by rfl)]
            refine wp_alloc_ob 27 (dvCells nilS dvNil nilS nilS) rfl alloc_dv ?_
            have HS227 : Hid (Hp w [.cd C, .ob B1 27 (dvCells (.slice apd d.pages.length cpd) d (.slice aud d.unread.length cud) (.slice afd d.faults.length cfd)), .rd Rd, .ob (w226.drew.heap.size) 27 (dvCells nilS dvNil nilS nilS)] (w226.drew.alloc (.cells (dvCells nilS dvNil nilS nilS).toArray 27))) := ((HS226.out).drew).put 27 (dvCells nilS dvNil nilS nilS)
            refine hK.out _ _ (HS227.out.pick [1] rfl) (fun hHeld => ?_)
            clear hK K
            generalize (w226.drew.alloc (.cells (dvCells nilS dvNil nilS nilS).toArray 27)) = w227 at *
            generalize w226.drew.heap.size = B46 at *
            try simp only [Act.put, List.setIfInBounds_toArray, List.set_cons_zero, List.set_cons_succ]
            refine wpAnyH_ready (rs := [2]) (by kernel_rfl) (by simp) ?_
            refine AllReadyH.cons (o := { dst := some 104, op := Op.call { callee := Callee.value (Operand.func 18), args := #[Operand.tmp 103], argTypes := #[32] }, type := 9, pos := "more.go:32", after := #[{ on := 1, ground := Ground.data }], guard := none }) rfl (fun K hK => ?_) (AllReadyH.nil)
            go_simp
            go_wp2_with (go_at_call 18; refine (bytes_any C _ ((HS227.out).codes 0 rfl)).mono ?_; rintro e w228 ⟨s2, rfl, hs2, hb, hc⟩)
            have HS228 : Hid (Hp w [.cd C, .ob B1 27 (dvCells (.slice apd d.pages.length cpd) d (.slice aud d.unread.length cud) (.slice afd d.faults.length cfd)), .rd Rd, .ob B46 27 (dvCells nilS dvNil nilS nilS)] w228) := (HS227.out).draws 0 rfl hb hc
            refine hK.out _ _ (HS228.out.pick [1] rfl) (fun hHeld => ?_)
            clear hK K hb hc
            have HSm_s2 : Hid (s2.size ≤ maxLen) := by show _ ≤ _; rw [hs2]; decide
            have HSz_s2 := Lib.hid hs2
            clear hs2
            try simp only [Act.put, List.setIfInBounds_toArray, List.set_cons_zero, List.set_cons_succ]
            refine wpAnyH_ready (rs := [3]) (by kernel_rfl) (by simp) ?_
            refine AllReadyH.cons (o := { dst := some 105, op := Op.call { callee := Callee.value (Operand.func 27), args := #[Operand.tmp 102, Operand.const (Value.int IntKind.i64 0), Operand.tmp 104, Operand.const (Value.int IntKind.i64 5)], argTypes := #[27, 3, 9, 3] }, type := 36, pos := "more.go:32", after := #[{ on := 0, ground := Ground.data }, { on := 2, ground := Ground.data }, { on := 2, ground := Ground.chain }], guard := none }) rfl (fun K hK => ?_) (AllReadyH.nil)
            go_simp
            go_wp2_with (go_at_call 27; refine (dv_as (HQ1.out.2.2.1 s2) (tear_any 0 s2 5 _ HDv.out ((HS228.out).reads 2 rfl) HDd.out.ok.goodDv HSm_s2.out HDd.out.ok.pg HDd.out.ok.fl)).mono ?_; rintro e w229 ⟨pg, ug, fg, Rg, rfl, hrd, hin, hnew, hb⟩)
            obtain ⟨apg, cpg, rfl, _⟩ := hrd.pages
            obtain ⟨aug, cug, rfl, _⟩ := hrd.unread
            obtain ⟨afg, cfg, rfl, _⟩ := hrd.faults
            have HDvg := Lib.hid hrd
            have HS229 : Hid (Hp w [.cd C, .ob B1 27 (dvCells (.slice apd d.pages.length cpd) d (.slice aud d.unread.length cud) (.slice afd d.faults.length cfd)), .rd Rd, .ob B46 27 (dvCells nilS dvNil nilS nilS), .rd Rg] w229) := (HS228.out).addrd hb Rg hin (fun r hr => (hnew r hr).elim .inl (fun h => .inr ⟨.rd Rd, List.mem_of_getElem? (i := 2) rfl, List.mem_map.2 ⟨r, h, rfl⟩⟩))
            refine hK.out _ _ (HS229.out.pick [1] rfl) (fun hHeld => ?_)
            clear hK K hb hin hnew hrd
            try simp only [Act.put, List.setIfInBounds_toArray, List.set_cons_zero, List.set_cons_succ]
            refine wpAnyH_take (i := 4) (oi := { dst := some 101, op := Op.move (Operand.tmp 105), type := 36, pos := "more.go:32", after := #[{ on := 3, ground := Ground.data }], guard := none }) (v := ?q44v) rfl (by kernel_rfl) (by kernel_rfl) (by kernel_rfl) (fun _ _ _ h => h) (Or.inl ⟨by rfl, ?q44h⟩) hHeld ?q44r
            case q44h => (intro wq hSw; clear hSw; go_simp; try with_reducible rfl)
            try simp only [Act.put, List.setIfInBounds_toArray, List.set_cons_zero, List.set_cons_succ]
            refine wpAnyH_take (i := 5) (oi := { dst := some 106, op := Op.extract (Operand.tmp 101) 0, type := 27, pos := "more.go:32", after := #[{ on := 4, ground := Ground.data }], guard := none }) (v := ?q45v) rfl (by kernel_rfl) (by kernel_rfl) (by kernel_rfl) (fun _ _ _ h => h) (Or.inl ⟨by rfl, ?q45h⟩) hHeld ?q45r
            case q45h => (intro wq hSw; clear hSw; go_simp; try with_reducible rfl)
            try simp only [Act.put, List.setIfInBounds_toArray, List.set_cons_zero, List.set_cons_succ]
            refine wpAnyH_take (i := 6) (oi := { dst := some 107, op := Op.extract (Operand.tmp 101) 1, type := 35, pos := "more.go:32", after := #[{ on := 4, ground := Ground.data }, { on := 8, ground := Ground.gcOnly Departure.lateStores }], guard := none }) (v := ?q46v) rfl (by kernel_rfl) (by kernel_rfl) (by kernel_rfl) (fun _ _ _ h => h) (Or.inl ⟨by rfl, ?q46h⟩) hHeld ?q46r
            case q46h => (intro wq hSw; clear hSw; go_simp; try with_reducible rfl)
            try simp only [Act.put, List.setIfInBounds_toArray, List.set_cons_zero, List.set_cons_succ]
            refine wpAnyH_ready (rs := [8]) (by kernel_rfl) (by simp) ?_
            refine AllReadyH.cons (o := { dst := none, op := Op.store 27 (Operand.tmp 18) (Operand.tmp 106), type := 0, pos := "more.go:32", after := #[{ on := 7, ground := Ground.data }, { on := 5, ground := Ground.data }, { on := 3, ground := Ground.chain }, { on := 0, ground := Ground.phase }, { on := 1, ground := Ground.phase }, { on := 2, ground := Ground.phase }, { on := 3, ground := Ground.phase }, { on := 4, ground := Ground.phase }, { on := 5, ground := Ground.phase }, { on := 6, ground := Ground.textOnly Departure.lateStores }, { on := 7, ground := Ground.phase }], guard := none }) rfl (fun K hK => ?_) (AllReadyH.nil)
            rw [if_pos (by rfl)]
            refine wp_store_ob 27 (.tmp 18) (.tmp 106) B46 (dvCells (.slice apg dvNil.pages.length cpg) dvNil (.slice aug dvNil.unread.length cug) (.slice afg dvNil.faults.length cfg)) (dvCells nilS dvNil nilS nilS) 27 rfl rfl rfl rfl ((HS229.out).get 3 rfl) (info_dv) (rfl) ((oneCell_dv _ _ _ _ _ _ _ _ _ _)) ?_
            have HS230 : Hid (Hp w [.cd C, .ob B1 27 (dvCells (.slice apd d.pages.length cpd) d (.slice aud d.unread.length cud) (.slice afd d.faults.length cfd)), .rd Rd, .ob B46 27 (dvCells (.slice apg dvNil.pages.length cpg) dvNil (.slice aug dvNil.unread.length cug) (.slice afg dvNil.faults.length cfg)), .rd Rg] (w229.setRow B46 (dvCells (.slice apg dvNil.pages.length cpg) dvNil (.slice aug dvNil.unread.length cug) (.slice afg dvNil.faults.length cfg)).toArray)) := (HS229.out).row 3 rfl (dvCells (.slice apg dvNil.pages.length cpg) dvNil (.slice aug dvNil.unread.length cug) (.slice afg dvNil.faults.length cfg))
            refine hK.out _ _ (HS230.out.pick [1] rfl) (fun hHeld => ?_)
            clear hK K
            generalize (w229.setRow B46 (dvCells (.slice apg dvNil.pages.length cpg) dvNil (.slice aug dvNil.unread.length cug) (.slice afg dvNil.faults.length cfg)).toArray) = w230 at *
            try simp only [Act.put, List.setIfInBounds_toArray, List.set_cons_zero, List.set_cons_succ]
            refine wpAnyH_take (i := 9) (oi := { dst := some 19, op := Op.assign (Operand.tmp 107), type := 35, pos := "more.go:32", after := #[{ on := 6, ground := Ground.data }, { on := 8, ground := Ground.chain }, { on := 0, ground := Ground.phase }, { on := 1, ground := Ground.phase }, { on := 2, ground := Ground.phase }, { on := 3, ground := Ground.phase }, { on := 4, ground := Ground.phase }, { on := 5, ground := Ground.phase }, { on := 6, ground := Ground.phase }, { on := 7, ground := Ground.phase }, { on := 8, ground := Ground.phase }], guard := none }) (v := ?q47v) rfl (by kernel_rfl) (by kernel_rfl) (by kernel_rfl) (fun _ _ _ h => h) (Or.inl ⟨by rfl, ?q47h⟩) hHeld ?q47r
            case q47h => (intro wq hSw; clear hSw; go_simp; try with_reducible rfl)
            try simp only [Act.put, List.setIfInBounds_toArray, List.set_cons_zero, List.set_cons_succ]
            refine wpAnyH_done (by kernel_rfl) ?_ _
            go_wp2_with fail
            go_meet
            exact ⟨B46, apg, cpg, aug, cug, afg, cfg, Rg, rfl, rfl, HS230.out⟩
        case rest =>
          obtain ⟨B67, apg, cpg, aug, cug, afg, cfg, Rg, rfl, rfl, hs⟩ := hcut
          have HS250 : Hid (Hp w [.cd C, .ob B1 27 (dvCells (.slice apd d.pages.length cpd) d (.slice aud d.unread.length cud) (.slice afd d.faults.length cfd)), .rd Rd, .ob B67 27 (dvCells (.slice apg dvNil.pages.length cpg) dvNil (.slice aug dvNil.unread.length cug) (.slice afg dvNil.faults.length cfg)), .rd Rg] wc) := hs
          clear hs HS226
          generalize wc = w251 at *
          have HS251 : Hid (Hp w [.cd C, .ob B1 27 (dvCells (.slice apd d.pages.length cpd) d (.slice aud d.unread.length cud) (.slice afd d.faults.length cfd)), .rd Rd] w251) := HS250.out.pull [0, 1, 2] rfl (pull_nd HS250.out.nd [0, 1, 2] rfl (by decide))
          clear HS250
          go_upto_region 20 with (fail)
          go_wp2_with (first | ((with_reducible refine wpList_load_ob 27 (.tmp 6) B1 (dvCells (.slice apd d.pages.length cpd) d (.slice aud d.unread.length cud) (.slice afd d.faults.length cfd)) 27 HUD.out ?_ ?_ ?_ ?_ ?_); (exact rfl); (exact (HS251.out).get 1 rfl); (exact rfl); (exact info_dv); simp only [Act.put, List.setIfInBounds_toArray, List.set_cons_zero, List.set_cons_succ]))
          refine (dv_as HQ1.out.2.2.2 (replace_any _ HDv.out ((HS251.out).reads 2 rfl) HDd.out.ok.goodDv HDd.out.ok.fl)).mono ?_
          rintro e w252 ⟨px, ux, fx, Rx, rfl, hrd, hin, hnew, hb⟩
          obtain ⟨apx, cpx, rfl, _⟩ := hrd.pages
          obtain ⟨aux, cux, rfl, _⟩ := hrd.unread
          obtain ⟨afx, cfx, rfl, _⟩ := hrd.faults
          have HDvx := Lib.hid hrd
          have HS252 : Hid (Hp w [.cd C, .ob B1 27 (dvCells (.slice apd d.pages.length cpd) d (.slice aud d.unread.length cud) (.slice afd d.faults.length cfd)), .rd Rd, .rd Rx] w252) := (HS251.out).addrd hb Rx hin (fun r hr => (hnew r hr).elim .inl (fun h => .inr ⟨.rd Rd, List.mem_of_getElem? (i := 2) rfl, List.mem_map.2 ⟨r, h, rfl⟩⟩))
          clear hb hin hnew hrd
          clear HS251
          go_upto_region 21 with (first | ((with_reducible refine wpList_alloc_ob 27 (dvCells nilS dvNil nilS nilS) ?_ ?_); (exact alloc_dv); simp only [Act.put, List.setIfInBounds_toArray, List.set_cons_zero, List.set_cons_succ]) | ((with_reducible refine wpList_store_ob 27 (.tmp 20) (w252.heap.size) (dvCells (.slice apx x.pages.length cpx) x (.slice aux x.unread.length cux) (.slice afx x.faults.length cfx)) (dvCells nilS dvNil nilS nilS) 27 ?_ ?_ ?_ ?_ ?_ ?_ ?_); (exact rfl); (exact rfl); (exact ((HS252.out).put 27 (dvCells nilS dvNil nilS nilS)).get 4 rfl); (exact info_dv); (exact rfl); (exact (oneCell_dv _ _ _ _ _ _ _ _ _ _)); skip))
          have HS253 : Hid (Hp w [.cd C, .ob B1 27 (dvCells (.slice apd d.pages.length cpd) d (.slice aud d.unread.length cud) (.slice afd d.faults.length cfd)), .rd Rd, .rd Rx, .ob (w252.heap.size) 27 (dvCells (.slice apx x.pages.length cpx) x (.slice aux x.unread.length cux) (.slice afx x.faults.length cfx))] ((w252.alloc (.cells (dvCells nilS dvNil nilS nilS).toArray 27)).setRow (w252.heap.size) (dvCells (.slice apx x.pages.length cpx) x (.slice aux x.unread.length cux) (.slice afx x.faults.length cfx)).toArray)) := ((HS252.out).put 27 (dvCells nilS dvNil nilS nilS)).row 4 rfl (dvCells (.slice apx x.pages.length cpx) x (.slice aux x.unread.length cux) (.slice afx x.faults.length cfx))
          clear HS252
          generalize ((w252.alloc (.cells (dvCells nilS dvNil nilS nilS).toArray 27)).setRow (w252.heap.size) (dvCells (.slice apx x.pages.length cpx) x (.slice aux x.unread.length cux) (.slice afx x.faults.length cfx)).toArray) = w253 at *
          generalize w252.heap.size = B68 at *
          have HS254 : Hid (Hp w [.cd C, .ob B68 27 (dvCells (.slice apx x.pages.length cpx) x (.slice aux x.unread.length cux) (.slice afx x.faults.length cfx)), .rd Rx] w253) := HS253.out.pull [0, 4, 3] rfl (pull_nd HS253.out.nd [0, 4, 3] rfl (by decide))
          clear HS253
          go_cut [22, 23] (fun s22 s23 wx => ∃ bq0, ∃ (y : Dv) (apy : Option Addr) (cpy : Nat) (auy : Option Addr) (cuy : Nat) (afy : Option Addr) (cfy : Nat) (Ry : List Rng), s22 = .pointer (some ⟨bq0, 0, none⟩) ∧ s23 = .int .i64 0 ∧ (DvOk y ∧ readR y 1 = (blankPg, 0) ∧ DvRd (.slice apy y.pages.length cpy) (.slice auy y.unread.length cuy) (.slice afy y.faults.length cfy) y Ry) ∧ Hp w [.cd C, .ob B68 27 (dvCells (.slice apx x.pages.length cpx) x (.slice aux x.unread.length cux) (.slice afx x.faults.length cfx)), .rd Rx, .ob bq0 27 (dvCells (.slice apy y.pages.length cpy) y (.slice auy y.unread.length cuy) (.slice afy y.faults.length cfy)), .rd Ry] wx)
          case first =>
            refine wp_region_held_drew (S := fun w' => Hold w.heap.size [.ob B68 27 (dvCells (.slice apx x.pages.length cpx) x (.slice aux x.unread.length cux) (.slice afx x.faults.length cfx))] w') (by kernel_rfl) ((HS254.out).drew.pick [1] rfl) (fun hHeld => ?_)
            refine wpAnyH_take (i := 0) (oi := { dst := some 114, op := Op.load 27 (Operand.tmp 20), type := 27, pos := "more.go:34", after := #[], guard := none }) rfl (by kernel_rfl) (by kernel_rfl) (by kernel_rfl) (fun _ _ _ h => h) (yieldsIf_load_mid (by rfl) 27 (.tmp 20) rfl B68 0 rfl (dvCells (.slice apx x.pages.length cpx) x (.slice aux x.unread.length cux) (.slice afx x.faults.length cfx)) _ (fun _ h => h.whole 0 rfl) HUD.out rfl (info_dv)) hHeld ?_
            try simp only [Act.put, List.setIfInBounds_toArray, List.set_cons_zero, List.set_cons_succ]
            refine wpAnyH_take (i := 1) (oi := { dst := some 115, op := Op.move (Operand.tmp 5), type := 32, pos := "more.go:34", after := #[], guard := none }) (v := ?q49v) rfl (by kernel_rfl) (by kernel_rfl) (by kernel_rfl) (fun _ _ _ h => h) (Or.inl ⟨by rfl, ?q49h⟩) hHeld ?q49r
            case q49h => (intro wq hSw; clear hSw; go_simp; try with_reducible rfl)
            try simp only [Act.put, List.setIfInBounds_toArray, List.set_cons_zero, List.set_cons_succ]
            refine wpAnyH_ready (rs := [2, 7]) (by kernel_rfl) (by simp) ?_
            refine AllReadyH.cons (o := { dst := some 116, op := Op.call { callee := Callee.value (Operand.func 18), args := #[Operand.tmp 115], argTypes := #[32] }, type := 9, pos := "more.go:34", after := #[{ on := 1, ground := Ground.data }], guard := none }) rfl (fun K hK => ?_) (AllReadyH.cons (o := { dst := some 22, op := Op.alloc 27, type := 0, pos := "more.go:34", after := #[], guard := none }) rfl (fun K hK => ?_) (AllReadyH.nil))
            · go_simp
              go_wp2_with (go_at_call 18; refine (bytes_any C _ (((HS254.out).drew).codes 0 rfl)).mono ?_; rintro e w254 ⟨s3, rfl, hs2, hb, hc⟩)
              have HS255 : Hid (Hp w [.cd C, .ob B68 27 (dvCells (.slice apx x.pages.length cpx) x (.slice aux x.unread.length cux) (.slice afx x.faults.length cfx)), .rd Rx] w254) := ((HS254.out).drew).draws 0 rfl hb hc
              refine hK.out _ _ (HS255.out.pick [1] rfl) (fun hHeld => ?_)
              clear hK K hb hc
              have HSm_s3 : Hid (s3.size ≤ maxLen) := by show _ ≤ _; rw [hs2]; decide
              have HSz_s3 := Lib.hid hs2
              clear hs2
              obtain ⟨y, qy1, qy2, qy3⟩ := HY.out s3 HSz_s3.out
              have HYw := Lib.hid qy1
              have HYr := Lib.hid qy3
              have HYo := Lib.hid qy2
              clear qy1 qy2 qy3
              try simp only [Act.put, List.setIfInBounds_toArray, List.set_cons_zero, List.set_cons_succ]
              refine wpAnyH_ready (rs := [3, 7]) (by kernel_rfl) (by simp) ?_
              refine AllReadyH.cons (o := { dst := some 117, op := Op.call { callee := Callee.value (Operand.func 20), args := #[Operand.tmp 114, Operand.const (Value.int IntKind.i64 1), Operand.tmp 116], argTypes := #[27, 3, 9] }, type := 36, pos := "more.go:34", after := #[{ on := 0, ground := Ground.data }, { on := 2, ground := Ground.data }, { on := 2, ground := Ground.chain }], guard := none }) rfl (fun K hK => ?_) (AllReadyH.cons (o := { dst := some 22, op := Op.alloc 27, type := 0, pos := "more.go:34", after := #[], guard := none }) rfl (fun K hK => ?_) (AllReadyH.nil))
              · go_simp
                go_wp2_with (go_at_call 20; refine (dv_as HYw.out (write_any 1 s3 _ HDvx.out ((HS255.out).reads 2 rfl) HX.out.1.goodDv HSm_s3.out HX.out.1.pg HX.out.1.fl)).mono ?_; rintro e w255 ⟨py, uy, fy, Ry, rfl, hrd, hin, hnew, hb⟩)
                obtain ⟨apy, cpy, rfl, _⟩ := hrd.pages
                obtain ⟨auy, cuy, rfl, _⟩ := hrd.unread
                obtain ⟨afy, cfy, rfl, _⟩ := hrd.faults
                have HDvy := Lib.hid hrd
                have HS256 : Hid (Hp w [.cd C, .ob B68 27 (dvCells (.slice apx x.pages.length cpx) x (.slice aux x.unread.length cux) (.slice afx x.faults.length cfx)), .rd Rx, .rd Ry] w255) := (HS255.out).addrd hb Ry hin (fun r hr => (hnew r hr).elim .inl (fun h => .inr ⟨.rd Rx, List.mem_of_getElem? (i := 2) rfl, List.mem_map.2 ⟨r, h, rfl⟩⟩))
                refine hK.out _ _ (HS256.out.pick [1] rfl) (fun hHeld => ?_)
                clear hK K hb hin hnew hrd
                try simp only [Act.put, List.setIfInBounds_toArray, List.set_cons_zero, List.set_cons_succ]
                refine wpAnyH_take (i := 4) (oi := { dst := some 113, op := Op.move (Operand.tmp 117), type := 36, pos := "more.go:34", after := #[{ on := 3, ground := Ground.data }], guard := none }) (v := ?q50v) rfl (by kernel_rfl) (by kernel_rfl) (by kernel_rfl) (fun _ _ _ h => h) (Or.inl ⟨by rfl, ?q50h⟩) hHeld ?q50r
                case q50h => (intro wq hSw; clear hSw; go_simp; try with_reducible rfl)
                try simp only [Act.put, List.setIfInBounds_toArray, List.set_cons_zero, List.set_cons_succ]
                refine wpAnyH_take (i := 5) (oi := { dst := some 118, op := Op.extract (Operand.tmp 113) 0, type := 27, pos := "more.go:34", after := #[{ on := 4, ground := Ground.data }], guard := none }) (v := ?q51v) rfl (by kernel_rfl) (by kernel_rfl) (by kernel_rfl) (fun _ _ _ h => h) (Or.inl ⟨by rfl, ?q51h⟩) hHeld ?q51r
                case q51h => (intro wq hSw; clear hSw; go_simp; try with_reducible rfl)
                try simp only [Act.put, List.setIfInBounds_toArray, List.set_cons_zero, List.set_cons_succ]
                refine wpAnyH_take (i := 6) (oi := { dst := some 119, op := Op.extract (Operand.tmp 113) 1, type := 35, pos := "more.go:34", after := #[{ on := 4, ground := Ground.data }, { on := 8, ground := Ground.gcOnly Departure.lateStores }], guard := none }) (v := ?q52v) rfl (by kernel_rfl) (by kernel_rfl) (by kernel_rfl) (fun _ _ _ h => h) (Or.inl ⟨by rfl, ?q52h⟩) hHeld ?q52r
                case q52h => (intro wq hSw; clear hSw; go_simp; try with_reducible rfl)
                try simp only [Act.put, List.setIfInBounds_toArray, List.set_cons_zero, List.set_cons_succ]
                refine wpAnyH_ready (rs := [7]) (by kernel_rfl) (by simp) ?_
                refine AllReadyH.cons (o := { dst := some 22, op := Op.alloc 27, type := 0, pos := "more.go:34", after := #[], guard := none }) rfl (fun K hK => ?_) (AllReadyH.nil)
                rw [if_pos (by rfl)]
                refine wp_alloc_ob 27 (dvCells nilS dvNil nilS nilS) rfl alloc_dv ?_
                have HS257 : Hid (Hp w [.cd C, .ob B68 27 (dvCells (.slice apx x.pages.length cpx) x (.slice aux x.unread.length cux) (.slice afx x.faults.length cfx)), .rd Rx, .rd Ry, .ob (w255.heap.size) 27 (dvCells nilS dvNil nilS nilS)] (w255.alloc (.cells (dvCells nilS dvNil nilS nilS).toArray 27))) := (HS256.out).put 27 (dvCells nilS dvNil nilS nilS)
                refine hK.out _ _ (HS257.out.pick [1] rfl) (fun hHeld => ?_)
                clear hK K
                generalize (w255.alloc (.cells (dvCells nilS dvNil nilS nilS).toArray 27)) = w256 at *
                generalize w255.heap.size = B69 at *
                try simp only [Act.put, List.setIfInBounds_toArray, List.set_cons_zero, List.set_cons_succ]
                refine wpAnyH_ready (rs := [8]) (by kernel_rfl) (by simp) ?_
                refine AllReadyH.cons (o := { dst := none, op := Op.store 27 (Operand.tmp 22) (Operand.tmp 118), type := 0, pos := "more.go:34", after := #[{ on := 7, ground := Ground.data }, { on := 5, ground := Ground.data }, { on := 3, ground := Ground.chain }, { on := 0, ground := Ground.phase }, { on := 1, ground := Ground.phase }, { on := 2, ground := Ground.phase }, { on := 3, ground := Ground.phase }, { on := 4, ground := Ground.phase }, { on := 5, ground := Ground.phase }, { on := 6, ground := Ground.textOnly Departure.lateStores }, { on := 7, ground := Ground.phase }], guard := none }) rfl (fun K hK => ?_) (AllReadyH.nil)
                rw [if_pos (by rfl)]
                refine wp_store_ob 27 (.tmp 22) (.tmp 118) B69 (dvCells (.slice apy y.pages.length cpy) y (.slice auy y.unread.length cuy) (.slice afy y.faults.length cfy)) (dvCells nilS dvNil nilS nilS) 27 rfl rfl rfl rfl ((HS257.out).get 4 rfl) (info_dv) (rfl) ((oneCell_dv _ _ _ _ _ _ _ _ _ _)) ?_
                have HS258 : Hid (Hp w [.cd C, .ob B68 27 (dvCells (.slice apx x.pages.length cpx) x (.slice aux x.unread.length cux) (.slice afx x.faults.length cfx)), .rd Rx, .rd Ry, .ob B69 27 (dvCells (.slice apy y.pages.length cpy) y (.slice auy y.unread.length cuy) (.slice afy y.faults.length cfy))] (w256.setRow B69 (dvCells (.slice apy y.pages.length cpy) y (.slice auy y.unread.length cuy) (.slice afy y.faults.length cfy)).toArray)) := (HS257.out).row 4 rfl (dvCells (.slice apy y.pages.length cpy) y (.slice auy y.unread.length cuy) (.slice afy y.faults.length cfy))
                refine hK.out _ _ (HS258.out.pick [1] rfl) (fun hHeld => ?_)
                clear hK K
                generalize (w256.setRow B69 (dvCells (.slice apy y.pages.length cpy) y (.slice auy y.unread.length cuy) (.slice afy y.faults.length cfy)).toArray) = w257 at *
                try simp only [Act.put, List.setIfInBounds_toArray, List.set_cons_zero, List.set_cons_succ]
                refine wpAnyH_take (i := 9) (oi := { dst := some 23, op := Op.assign (Operand.tmp 119), type := 35, pos := "more.go:34", after := #[{ on := 6, ground := Ground.data }, { on := 8, ground := Ground.chain }, { on := 0, ground := Ground.phase }, { on := 1, ground := Ground.phase }, { on := 2, ground := Ground.phase }, { on := 3, ground := Ground.phase }, { on := 4, ground := Ground.phase }, { on := 5, ground := Ground.phase }, { on := 6, ground := Ground.phase }, { on := 7, ground := Ground.phase }, { on := 8, ground := Ground.phase }], guard := none }) (v := ?q53v) rfl (by kernel_rfl) (by kernel_rfl) (by kernel_rfl) (fun _ _ _ h => h) (Or.inl ⟨by rfl, ?q53h⟩) hHeld ?q53r
                case q53h => (intro wq hSw; clear hSw; go_simp; try with_reducible rfl)
                try simp only [Act.put, List.setIfInBounds_toArray, List.set_cons_zero, List.set_cons_succ]
                refine wpAnyH_done (by kernel_rfl) ?_ _
                have HS259 : Hid (Hp w [.cd C, .ob B68 27 (dvCells (.slice apx x.pages.length cpx) x (.slice aux x.unread.length cux) (.slice afx x.faults.length cfx)), .rd Rx, .ob B69 27 (dvCells (.slice apy y.pages.length cpy) y (.slice auy y.unread.length cuy) (.slice afy y.faults.length cfy)), .rd Ry] w257) := HS258.out.pull [0, 1, 2, 4, 3] rfl (pull_nd HS258.out.nd [0, 1, 2, 4, 3] rfl (by decide))
                clear HS258
                go_wp2_with fail
                go_meet
                exact ⟨B69, y, apy, cpy, auy, cuy, afy, cfy, Ry, rfl, rfl, ⟨HYo.out, HYr.out, HDvy.out⟩, HS259.out⟩
              · rw [if_pos (by rfl)]
                refine wp_alloc_ob 27 (dvCells nilS dvNil nilS nilS) rfl alloc_dv ?_
                have HS256 : Hid (Hp w [.cd C, .ob B68 27 (dvCells (.slice apx x.pages.length cpx) x (.slice aux x.unread.length cux) (.slice afx x.faults.length cfx)), .rd Rx, .ob (w254.heap.size) 27 (dvCells nilS dvNil nilS nilS)] (w254.alloc (.cells (dvCells nilS dvNil nilS nilS).toArray 27))) := (HS255.out).put 27 (dvCells nilS dvNil nilS nilS)
                refine hK.out _ _ (HS256.out.pick [1] rfl) (fun hHeld => ?_)
                clear hK K
                generalize (w254.alloc (.cells (dvCells nilS dvNil nilS nilS).toArray 27)) = w255 at *
                generalize w254.heap.size = B69 at *
                try simp only [Act.put, List.setIfInBounds_toArray, List.set_cons_zero, List.set_cons_succ]
                refine wpAnyH_ready (rs := [3]) (by kernel_rfl) (by simp) ?_
                refine AllReadyH.cons (o := { dst := some 117, op := Op.call { callee := Callee.value (Operand.func 20), args := #[Operand.tmp 114, Operand.const (Value.int IntKind.i64 1), Operand.tmp 116], argTypes := #[27, 3, 9] }, type := 36, pos := "more.go:34", after := #[{ on := 0, ground := Ground.data }, { on := 2, ground := Ground.data }, { on := 2, ground := Ground.chain }], guard := none }) rfl (fun K hK => ?_) (AllReadyH.nil)
                go_simp
                go_wp2_with (go_at_call 20; refine (dv_as HYw.out (write_any 1 s3 _ HDvx.out ((HS256.out).reads 2 rfl) HX.out.1.goodDv HSm_s3.out HX.out.1.pg HX.out.1.fl)).mono ?_; rintro e w256 ⟨py, uy, fy, Ry, rfl, hrd, hin, hnew, hb⟩)
                obtain ⟨apy, cpy, rfl, _⟩ := hrd.pages
                obtain ⟨auy, cuy, rfl, _⟩ := hrd.unread
                obtain ⟨afy, cfy, rfl, _⟩ := hrd.faults
                have HDvy := Lib.hid hrd
                have HS257 : Hid (Hp w [.cd C, .ob B68 27 (dvCells (.slice apx x.pages.length cpx) x (.slice aux x.unread.length cux) (.slice afx x.faults.length cfx)), .rd Rx, .ob B69 27 (dvCells nilS dvNil nilS nilS), .rd Ry] w256) := (HS256.out).addrd hb Ry hin (fun r hr => (hnew r hr).elim .inl (fun h => .inr ⟨.rd Rx, List.mem_of_getElem? (i := 2) rfl, List.mem_map.2 ⟨r, h, rfl⟩⟩))
                refine hK.out _ _ (HS257.out.pick [1] rfl) (fun hHeld => ?_)
                clear hK K hb hin hnew hrd
                try simp only [Act.put, List.setIfInBounds_toArray, List.set_cons_zero, List.set_cons_succ]
                refine wpAnyH_take (i := 4) (oi := { dst := some 113, op := Op.move (Operand.tmp 117), type := 36, pos := "more.go:34", after := #[{ on := 3, ground := Ground.data }], guard := none }) (v := ?q54v) rfl (by kernel_rfl) (by kernel_rfl) (by kernel_rfl) (fun _ _ _ h => h) (Or.inl ⟨by rfl, ?q54h⟩) hHeld ?q54r
                case q54h => (intro wq hSw; clear hSw; go_simp; try with_reducible rfl)
                try simp only [Act.put, List.setIfInBounds_toArray, List.set_cons_zero, List.set_cons_succ]
                refine wpAnyH_take (i := 5) (oi := { dst := some 118, op := Op.extract (Operand.tmp 113) 0, type := 27, pos := "more.go:34", after := #[{ on := 4, ground := Ground.data }], guard := none }) (v := ?q55v) rfl (by kernel_rfl) (by kernel_rfl) (by kernel_rfl) (fun _ _ _ h => h) (Or.inl ⟨by rfl, ?q55h⟩) hHeld ?q55r
                case q55h => (intro wq hSw; clear hSw; go_simp; try with_reducible rfl)
                try simp only [Act.put, List.setIfInBounds_toArray, List.set_cons_zero, List.set_cons_succ]
                refine wpAnyH_take (i := 6) (oi := { dst := some 119, op := Op.extract (Operand.tmp 113) 1, type := 35, pos := "more.go:34", after := #[{ on := 4, ground := Ground.data }, { on := 8, ground := Ground.gcOnly Departure.lateStores }], guard := none }) (v := ?q56v) rfl (by kernel_rfl) (by kernel_rfl) (by kernel_rfl) (fun _ _ _ h => h) (Or.inl ⟨by rfl, ?q56h⟩) hHeld ?q56r
                case q56h => (intro wq hSw; clear hSw; go_simp; try with_reducible rfl)
                try simp only [Act.put, List.setIfInBounds_toArray, List.set_cons_zero, List.set_cons_succ]
                refine wpAnyH_ready (rs := [8]) (by kernel_rfl) (by simp) ?_
                refine AllReadyH.cons (o := { dst := none, op := Op.store 27 (Operand.tmp 22) (Operand.tmp 118), type := 0, pos := "more.go:34", after := #[{ on := 7, ground := Ground.data }, { on := 5, ground := Ground.data }, { on := 3, ground := Ground.chain }, { on := 0, ground := Ground.phase }, { on := 1, ground := Ground.phase }, { on := 2, ground := Ground.phase }, { on := 3, ground := Ground.phase }, { on := 4, ground := Ground.phase }, { on := 5, ground := Ground.phase }, { on := 6, ground := Ground.textOnly Departure.lateStores }, { on := 7, ground := Ground.phase }], guard := none }) rfl (fun K hK => ?_) (AllReadyH.nil)
                rw [if_pos (by rfl)]
                refine wp_store_ob 27 (.tmp 22) (.tmp 118) B69 (dvCells (.slice apy y.pages.length cpy) y (.slice auy y.unread.length cuy) (.slice afy y.faults.length cfy)) (dvCells nilS dvNil nilS nilS) 27 rfl rfl rfl rfl ((HS257.out).get 3 rfl) (info_dv) (rfl) ((oneCell_dv _ _ _ _ _ _ _ _ _ _)) ?_
                have HS258 : Hid (Hp w [.cd C, .ob B68 27 (dvCells (.slice apx x.pages.length cpx) x (.slice aux x.unread.length cux) (.slice afx x.faults.length cfx)), .rd Rx, .ob B69 27 (dvCells (.slice apy y.pages.length cpy) y (.slice auy y.unread.length cuy) (.slice afy y.faults.length cfy)), .rd Ry] (w256.setRow B69 (dvCells (.slice apy y.pages.length cpy) y (.slice auy y.unread.length cuy) (.slice afy y.faults.length cfy)).toArray)) := (HS257.out).row 3 rfl (dvCells (.slice apy y.pages.length cpy) y (.slice auy y.unread.length cuy) (.slice afy y.faults.length cfy))
                refine hK.out _ _ (HS258.out.pick [1] rfl) (fun hHeld => ?_)
                clear hK K
                generalize (w256.setRow B69 (dvCells (.slice apy y.pages.length cpy) y (.slice auy y.unread.length cuy) (.slice afy y.faults.length cfy)).toArray) = w257 at *
                try simp only [Act.put, List.setIfInBounds_toArray, List.set_cons_zero, List.set_cons_succ]
                refine wpAnyH_take (i := 9) (oi := { dst := some 23, op := Op.assign (Operand.tmp 119), type := 35, pos := "more.go:34", after := #[{ on := 6, ground := Ground.data }, { on := 8, ground := Ground.chain }, { on := 0, ground := Ground.phase }, { on := 1, ground := Ground.phase }, { on := 2, ground := Ground.phase }, { on := 3, ground := Ground.phase }, { on := 4, ground := Ground.phase }, { on := 5, ground := Ground.phase }, { on := 6, ground := Ground.phase }, { on := 7, ground := Ground.phase }, { on := 8, ground := Ground.phase }], guard := none }) (v := ?q57v) rfl (by kernel_rfl) (by kernel_rfl) (by kernel_rfl) (fun _ _ _ h => h) (Or.inl ⟨by rfl, ?q57h⟩) hHeld ?q57r
                case q57h => (intro wq hSw; clear hSw; go_simp; try with_reducible rfl)
                try simp only [Act.put, List.setIfInBounds_toArray, List.set_cons_zero, List.set_cons_succ]
                refine wpAnyH_done (by kernel_rfl) ?_ _
                go_wp2_with fail
                go_meet
                exact ⟨B69, y, apy, cpy, auy, cuy, afy, cfy, Ry, rfl, rfl, ⟨HYo.out, HYr.out, HDvy.out⟩, HS258.out⟩
            · rw [if_pos (by rfl)]
              refine wp_alloc_ob 27 (dvCells nilS dvNil nilS nilS) rfl alloc_dv ?_
              have HS255 : Hid (Hp w [.cd C, .ob B68 27 (dvCells (.slice apx x.pages.length cpx) x (.slice aux x.unread.length cux) (.slice afx x.faults.length cfx)), .rd Rx, .ob (w253.drew.heap.size) 27 (dvCells nilS dvNil nilS nilS)] (w253.drew.alloc (.cells (dvCells nilS dvNil nilS nilS).toArray 27))) := ((HS254.out).drew).put 27 (dvCells nilS dvNil nilS nilS)
              refine hK.out _ _ (HS255.out.pick [1] rfl) (fun hHeld => ?_)
              clear hK K
              generalize (w253.drew.alloc (.cells (dvCells nilS dvNil nilS nilS).toArray 27)) = w254 at *
              generalize w253.drew.heap.size = B69 at *
              try simp only [Act.put, List.setIfInBounds_toArray, List.set_cons_zero, List.set_cons_succ]
              refine wpAnyH_ready (rs := [2]) (by kernel_rfl) (by simp) ?_
              refine AllReadyH.cons (o := { dst := some 116, op := Op.call { callee := Callee.value (Operand.func 18), args := #[Operand.tmp 115], argTypes := #[32] }, type := 9, pos := "more.go:34", after := #[{ on := 1, ground := Ground.data }], guard := none }) rfl (fun K hK => ?_) (AllReadyH.nil)
              go_simp
              go_wp2_with (go_at_call 18; refine (bytes_any C _ ((HS255.out).codes 0 rfl)).mono ?_; rintro e w255 ⟨s3, rfl, hs2, hb, hc⟩)
              have HS256 : Hid (Hp w [.cd C, .ob B68 27 (dvCells (.slice apx x.pages.length cpx) x (.slice aux x.unread.length cux) (.slice afx x.faults.length cfx)), .rd Rx, .ob B69 27 (dvCells nilS dvNil nilS nilS)] w255) := (HS255.out).draws 0 rfl hb hc
              refine hK.out _ _ (HS256.out.pick [1] rfl) (fun hHeld => ?_)
              clear hK K hb hc
              have HSm_s3 : Hid (s3.size ≤ maxLen) := by show _ ≤ _; rw [hs2]; decide
              have HSz_s3 := Lib.hid hs2
              clear hs2
              obtain ⟨y, qy1, qy2, qy3⟩ := HY.out s3 HSz_s3.out
              have HYw := Lib.hid qy1
              have HYr := Lib.hid qy3
              have HYo := Lib.hid qy2
              clear qy1 qy2 qy3
              try simp only [Act.put, List.setIfInBounds_toArray, List.set_cons_zero, List.set_cons_succ]
              refine wpAnyH_ready (rs := [3]) (by kernel_rfl) (by simp) ?_
              refine AllReadyH.cons (o := { dst := some 117, op := Op.call { callee := Callee.value (Operand.func 20), args := #[Operand.tmp 114, Operand.const (Value.int IntKind.i64 1), Operand.tmp 116], argTypes := #[27, 3, 9] }, type := 36, pos := "more.go:34", after := #[{ on := 0, ground := Ground.data }, { on := 2, ground := Ground.data }, { on := 2, ground := Ground.chain }], guard := none }) rfl (fun K hK => ?_) (AllReadyH.nil)
              go_simp
              go_wp2_with (go_at_call 20; refine (dv_as HYw.out (write_any 1 s3 _ HDvx.out ((HS256.out).reads 2 rfl) HX.out.1.goodDv HSm_s3.out HX.out.1.pg HX.out.1.fl)).mono ?_; rintro e w256 ⟨py, uy, fy, Ry, rfl, hrd, hin, hnew, hb⟩)
              obtain ⟨apy, cpy, rfl, _⟩ := hrd.pages
              obtain ⟨auy, cuy, rfl, _⟩ := hrd.unread
              obtain ⟨afy, cfy, rfl, _⟩ := hrd.faults
              have HDvy := Lib.hid hrd
              have HS257 : Hid (Hp w [.cd C, .ob B68 27 (dvCells (.slice apx x.pages.length cpx) x (.slice aux x.unread.length cux) (.slice afx x.faults.length cfx)), .rd Rx, .ob B69 27 (dvCells nilS dvNil nilS nilS), .rd Ry] w256) := (HS256.out).addrd hb Ry hin (fun r hr => (hnew r hr).elim .inl (fun h => .inr ⟨.rd Rx, List.mem_of_getElem? (i := 2) rfl, List.mem_map.2 ⟨r, h, rfl⟩⟩))
              refine hK.out _ _ (HS257.out.pick [1] rfl) (fun hHeld => ?_)
              clear hK K hb hin hnew hrd
              try simp only [Act.put, List.setIfInBounds_toArray, List.set_cons_zero, List.set_cons_succ]
              refine wpAnyH_take (i := 4) (oi := { dst := some 113, op := Op.move (Operand.tmp 117), type := 36, pos := "more.go:34", after := #[{ on := 3, ground := Ground.data }], guard := none }) (v := ?q58v) rfl (by kernel_rfl) (by kernel_rfl) (by kernel_rfl) (fun _ _ _ h => h) (Or.inl ⟨by rfl, ?q58h⟩) hHeld ?q58r
              case q58h => (intro wq hSw; clear hSw; go_simp; try with_reducible rfl)
              try simp only [Act.put, List.setIfInBounds_toArray, List.set_cons_zero, List.set_cons_succ]
              refine wpAnyH_take (i := 5) (oi := { dst := some 118, op := Op.extract (Operand.tmp 113) 0, type := 27, pos := "more.go:34", after := #[{ on := 4, ground := Ground.data }], guard := none }) (v := ?q59v) rfl (by kernel_rfl) (by kernel_rfl) (by kernel_rfl) (fun _ _ _ h => h) (Or.inl ⟨by rfl, ?q59h⟩) hHeld ?q59r
              case q59h => (intro wq hSw; clear hSw; go_simp; try with_reducible rfl)
              try simp only [Act.put, List.setIfInBounds_toArray, List.set_cons_zero, List.set_cons_succ]
              refine wpAnyH_take (i := 6) (oi := { dst := some 119, op := Op.extract (Operand.tmp 113) 1, type := 35, pos := "more.go:34", after := #[{ on := 4, ground := Ground.data }, { on := 8, ground := Ground.gcOnly Departure.lateStores }], guard := none }) (v := ?q60v) rfl (by kernel_rfl) (by kernel_rfl) (by kernel_rfl) (fun _ _ _ h => h) (Or.inl ⟨by rfl, ?q60h⟩) hHeld ?q60r
              case q60h => (intro wq hSw; clear hSw; go_simp; try with_reducible rfl)
              try simp only [Act.put, List.setIfInBounds_toArray, List.set_cons_zero, List.set_cons_succ]
              refine wpAnyH_ready (rs := [8]) (by kernel_rfl) (by simp) ?_
              refine AllReadyH.cons (o := { dst := none, op := Op.store 27 (Operand.tmp 22) (Operand.tmp 118), type := 0, pos := "more.go:34", after := #[{ on := 7, ground := Ground.data }, { on := 5, ground := Ground.data }, { on := 3, ground := Ground.chain }, { on := 0, ground := Ground.phase }, { on := 1, ground := Ground.phase }, { on := 2, ground := Ground.phase }, { on := 3, ground := Ground.phase }, { on := 4, ground := Ground.phase }, { on := 5, ground := Ground.phase }, { on := 6, ground := Ground.textOnly Departure.lateStores }, { on := 7, ground := Ground.phase }], guard := none }) rfl (fun K hK => ?_) (AllReadyH.nil)
              rw [if_pos (by rfl)]
              refine wp_store_ob 27 (.tmp 22) (.tmp 118) B69 (dvCells (.slice apy y.pages.length cpy) y (.slice auy y.unread.length cuy) (.slice afy y.faults.length cfy)) (dvCells nilS dvNil nilS nilS) 27 rfl rfl rfl rfl ((HS257.out).get 3 rfl) (info_dv) (rfl) ((oneCell_dv _ _ _ _ _ _ _ _ _ _)) ?_
              have HS258 : Hid (Hp w [.cd C, .ob B68 27 (dvCells (.slice apx x.pages.length cpx) x (.slice aux x.unread.length cux) (.slice afx x.faults.length cfx)), .rd Rx, .ob B69 27 (dvCells (.slice apy y.pages.length cpy) y (.slice auy y.unread.length cuy) (.slice afy y.faults.length cfy)), .rd Ry] (w256.setRow B69 (dvCells (.slice apy y.pages.length cpy) y (.slice auy y.unread.length cuy) (.slice afy y.faults.length cfy)).toArray)) := (HS257.out).row 3 rfl (dvCells (.slice apy y.pages.length cpy) y (.slice auy y.unread.length cuy) (.slice afy y.faults.length cfy))
              refine hK.out _ _ (HS258.out.pick [1] rfl) (fun hHeld => ?_)
              clear hK K
              generalize (w256.setRow B69 (dvCells (.slice apy y.pages.length cpy) y (.slice auy y.unread.length cuy) (.slice afy y.faults.length cfy)).toArray) = w257 at *
              try simp only [Act.put, List.setIfInBounds_toArray, List.set_cons_zero, List.set_cons_succ]
              refine wpAnyH_take (i := 9) (oi := { dst := some 23, op := Op.assign (Operand.tmp 119), type := 35, pos := "more.go:34", after := #[{ on := 6, ground := Ground.data }, { on := 8, ground := Ground.chain }, { on := 0, ground := Ground.phase }, { on := 1, ground := Ground.phase }, { on := 2, ground := Ground.phase }, { on := 3, ground := Ground.phase }, { on := 4, ground := Ground.phase }, { on := 5, ground := Ground.phase }, { on := 6, ground := Ground.phase }, { on := 7, ground := Ground.phase }, { on := 8, ground := Ground.phase }], guard := none }) (v := ?q61v) rfl (by kernel_rfl) (by kernel_rfl) (by kernel_rfl) (fun _ _ _ h => h) (Or.inl ⟨by rfl, ?q61h⟩) hHeld ?q61r
              case q61h => (intro wq hSw; clear hSw; go_simp; try with_reducible rfl)
              try simp only [Act.put, List.setIfInBounds_toArray, List.set_cons_zero, List.set_cons_succ]
              refine wpAnyH_done (by kernel_rfl) ?_ _
              go_wp2_with fail
              go_meet
              exact ⟨B69, y, apy, cpy, auy, cuy, afy, cfy, Ry, rfl, rfl, ⟨HYo.out, HYr.out, HDvy.out⟩, HS258.out⟩
          case rest =>
            obtain ⟨B90, y, apy, cpy, auy, cuy, afy, cfy, Ry, rfl, rfl, hx, hs⟩ := hcut
            have HS278 : Hid (Hp w [.cd C, .ob B68 27 (dvCells (.slice apx x.pages.length cpx) x (.slice aux x.unread.length cux) (.slice afx x.faults.length cfx)), .rd Rx, .ob B90 27 (dvCells (.slice apy y.pages.length cpy) y (.slice auy y.unread.length cuy) (.slice afy y.faults.length cfy)), .rd Ry] wc) := hs
            clear hs HS254
            generalize wc = w278 at *
            obtain ⟨oy, ry, hdvy⟩ := hx
            have HYo := Lib.hid oy
            have HYr := Lib.hid ry
            have HDvy := Lib.hid hdvy
            clear oy ry hdvy
            go_wp2_with (first | ((with_reducible refine wpList_load_ob 27 (.tmp 22) B90 (dvCells (.slice apy y.pages.length cpy) y (.slice auy y.unread.length cuy) (.slice afy y.faults.length cfy)) 27 HUD.out ?_ ?_ ?_ ?_ ?_); (exact rfl); (exact (HS278.out).get 3 rfl); (exact rfl); (exact info_dv); simp only [Act.put, List.setIfInBounds_toArray, List.set_cons_zero, List.set_cons_succ]))
            refine (HYr.out ▸ read_any 1 _ HDvy.out ((HS278.out).reads 4 rfl) HYo.out.goodDv).mono ?_
            rintro e w279 ⟨rfl, hb⟩
            have HS279 : Hid (Hp w [.cd C, .ob B68 27 (dvCells (.slice apx x.pages.length cpx) x (.slice aux x.unread.length cux) (.slice afx x.faults.length cfx)), .rd Rx, .ob B90 27 (dvCells (.slice apy y.pages.length cpy) y (.slice auy y.unread.length cuy) (.slice afy y.faults.length cfy)), .rd Ry] w279) := (HS278.out).calls hb
            clear hb
            clear HS278
            go_upto_region 23 with (fail)
            have c1 : w279.cell? ⟨B68, 1, none⟩ = some (.int .i64 i) := by rw [← HX.out.2.1]; exact HS279.out.at 1 rfl 1 rfl
            have c4 : w279.cell? ⟨B68, 4, none⟩ = some (.slice afx 1 cfx) := by rw [← HX.out.2.2]; exact HS279.out.at 1 rfl 4 rfl
            have hm := HMk.out w279
            have hc := HCv.out w279
            have HF : Hid (Below w.heap.size w (w279.alloc (.cells L0.toArray 5))) := HS279.out.old.alloc (HS279.out.old.size) _
            go_wp2_with fail
            go_ret
            exact ⟨rfl, HF.out⟩
end Go.Proofs.Ytlmbnofkmmehoaa
