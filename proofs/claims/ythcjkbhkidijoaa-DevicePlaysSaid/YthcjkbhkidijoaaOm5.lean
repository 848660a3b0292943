/- the law's awake: the example of chapter 4 -/
import Derived.Test.YthcjkbhkidijoaaOm4
namespace Go.Proofs.Ythcjkbhkidijoaa
open Go.RowKit
set_option maxRecDepth 20000
set_option linter.unusedSimpArgs false
set_option linter.unusedVariables false

def txt (B : ByteArray) (c : UInt8) : ByteArray := B ++ ⟨#[c]⟩
def fltLost : Flt := ⟨1, 2, 0, 0, 0, 0⟩
theorem awake_facts (a b : ByteArray) (ha : a.size = 256) (hb : b.size = 256) : ∃ d0 d1 d2 d3 : Dv, (newR 1 = (d0, 0) ∧ injectR d0 fltLost = (d1, 0) ∧ writeR d1 0 a = (d2, 0) ∧ writeR d2 0 b = (d3, 0) ∧ readR d3 0 = (a, 0)) ∧ DvOk d0 ∧ DvOk d1 ∧ DvOk d2 ∧ DvOk d3 := by
  obtain ⟨n1, n2⟩ := new_ok (n := 1) (by decide)
  have hgf : GoodFlt fltLost := ⟨by decide, by decide, by decide, by decide, by decide, by decide⟩
  obtain ⟨i1, i2⟩ := inject_ok n2 (x := fltLost) (by decide) hgf (by decide)
  have e0 : List.replicate 1 blankPg = [blankPg] := rfl
  rw [e0] at n1 n2 i1 i2
  generalize hbl : blankPg = B at *
  have hB : B.size = 256 := by rw [← hbl]; rfl
  obtain ⟨w1, w2⟩ := write_ok i2 rfl (k := 0) Nat.zero_lt_one ha (by show (0 : Int) ≠ 1099511627776; decide)
  have ew : writeR ⟨[B], 0, [], false, [] ++ [fltLost]⟩ ((0 : Nat) : Int) a = (⟨[a], 1, [], false, [fltLost]⟩, 0) := by
    rw [w1]
    have ea : a.extract 0 256 ++ B.extract 256 256 = a := by
      rw [extract_all a ha]
      apply ByteArray.ext
      simp
    show ((([fltLost] : List Flt).filter fun f => decide (f.at_ = (0 : Int) + 1)).foldl happenR (landR ⟨[B], 0 + 1, [], false, [fltLost].filter fun f => !decide (f.at_ = (0 : Int) + 1)⟩ ((0 : Nat) : Int) a (([fltLost] : List Flt).filter fun f => decide (f.at_ = (0 : Int) + 1))), (0 : Int)) = _
    show (placeR ⟨[B], 0 + 1, [], false, [fltLost]⟩ ((0 : Nat) : Int) a 256, (0 : Int)) = _
    unfold placeR
    show ((⟨[a.extract 0 256 ++ B.extract 256 256], 0 + 1, [], false, [fltLost]⟩ : Dv), (0 : Int)) = _
    rw [ea]
    rfl
  rw [ew] at w2
  obtain ⟨v1, v2⟩ := write_ok w2 rfl (k := 0) Nat.zero_lt_one hb (by show (1 : Int) ≠ 1099511627776; decide)
  have ev : writeR ⟨[a], 1, [], false, [fltLost]⟩ ((0 : Nat) : Int) b = (⟨[a], 2, [], false, []⟩, 0) := by
    rw [v1]
    rfl
  rw [ev] at v2
  refine ⟨_, _, _, _, ⟨n1, i1, ew, ev, ?_⟩, n2, i2, w2, v2⟩
  exact read_ok v2 rfl (k := 0) Nat.zero_lt_one (by simp)
theorem made255 : ∃ (L : List Value) (B : ByteArray), B.size = 255 ∧ (∀ w : World, Sem.run Try.prog (Instr.makeSlice 22 (.int .i64 255) (.int .i64 255)) w = .ok (.slice (some ⟨w.heap.size, 0, none⟩) 255 255) (w.alloc (.cells L.toArray 5))) ∧
    (∀ (w : World) (g : Nat), w.heap[g]? = some (.cells L.toArray 5 (0, 0)) → Sem.run Try.prog (convert 22 9 (.slice (some ⟨g, 0, none⟩) 255 255)) w = .ok (.string B) w) := by
  refine ⟨(List.replicate 255 (0 : UInt8)).map (fun b => Value.int .u8 (b.toNat : Int)), ⟨(List.replicate 255 (0 : UInt8)).toArray⟩, by show Array.size _ = _; simp, fun w => ?_, fun w g hg => ?_⟩
  · have hmk : Sem.run Try.prog (Instr.makeSlice 22 (.int .i64 255) (.int .i64 255)) w = .ok (.slice (some ⟨w.heap.size, 0, none⟩) 255 255) (w.alloc (.cells (madeCells #[.int .u8 0] 255) 5)) :=
      run_make_row' 22 5 (.int .u8 0) 1 Try.underlying22 info_byte rfl .i64 .i64 255 (by decide) (by decide) w
    rw [made_row] at hmk
    exact hmk
  · have hR : RowIn w g (List.replicate 255 (0 : UInt8)) := hg
    exact hR.conv 255 255 (len_rep 255).symm
theorem build_flt2 (a b : Int) (W : World) : Sem.run Try.prog (Instr.build 29 #[(0, .int .i64 a), (1, .int .i64 b)]) W = .ok (.agg (fltCells ⟨a, b, 0, 0, 0, 0⟩).toArray) W := by kernel_rfl
set_option maxHeartbeats 16000000 in
theorem awake4 (w : World) : Calls Try.prog 9 #[] w fun e w' => e = .returned (.bool true) ∧ Below w.heap.size w w' := by
  obtain ⟨L0, B0, hB0, hmk, hcv⟩ := made255
  obtain ⟨sa, hsa⟩ : ∃ sa, sa = B0 ++ (⟨#[97]⟩ : ByteArray) := ⟨_, rfl⟩
  obtain ⟨sb, hsb⟩ : ∃ sb, sb = B0 ++ (⟨#[98]⟩ : ByteArray) := ⟨_, rfl⟩
  have hza : sa.size = 256 := by rw [hsa, ByteArray.size_append, hB0]; rfl
  have hzb : sb.size = 256 := by rw [hsb, ByteArray.size_append, hB0]; rfl
  obtain ⟨d0, d1, d2, d3, ⟨e1, e2, e3, e4, e5⟩, o0, o1, o2, o3⟩ := awake_facts sa sb hza hzb
  have HE : Hid ((newR 1 = (d0, 0) ∧ injectR d0 fltLost = (d1, 0) ∧ writeR d1 0 sa = (d2, 0) ∧ writeR d2 0 sb = (d3, 0) ∧ readR d3 0 = (sa, 0)) ∧ DvOk d0 ∧ DvOk d1 ∧ DvOk d2 ∧ DvOk d3) := ⟨⟨e1, e2, e3, e4, e5⟩, o0, o1, o2, o3⟩
  have HMk := Lib.hid hmk
  have HCv := Lib.hid hcv
  have HZ : Hid (sa.size ≤ maxLen ∧ sb.size ≤ maxLen) := ⟨by rw [hza]; decide, by rw [hzb]; decide⟩
  have HSS : Hid (sa = B0 ++ (⟨#[97]⟩ : ByteArray) ∧ sb = B0 ++ (⟨#[98]⟩ : ByteArray)) := ⟨hsa, hsb⟩
  obtain ⟨fs, hud⟩ := under_dv
  have HUD := Lib.hid hud
  obtain ⟨fs2, huf⟩ := under_flt
  have HUF := Lib.hid huf
  clear hud huf
  have HFG : Hid (GoodFlt fltLost) := ⟨by decide, by decide, by decide, by decide, by decide, by decide⟩
  have HS0 : Hid (Hp w [] w) := Hp.start w
  have HB0 := Lib.hid hB0
  clear hmk hcv hsa hsb hza hzb e1 e2 e3 e4 e5 o0 o1 o2 o3 hB0
  go_enter Try.func9, Try.ntmps9
  go_wp2_with fail
  refine (dv_as HE.out.1.1 (new_dv 1 _)).mono ?_
  rintro e w3 ⟨p0, u0, f0, R0, rfl, hrd, hin, hnew, hb⟩
  obtain ⟨ap0, cp0, rfl, _⟩ := hrd.pages
  obtain ⟨au0, cu0, rfl, _⟩ := hrd.unread
  obtain ⟨af0, cf0, rfl, _⟩ := hrd.faults
  have HDv0 := Lib.hid hrd
  have HS1 : Hid (Hp w [.rd R0] w3) := (HS0.out).addrd hb R0 hin (fun r hr => (hnew r hr).elim .inl (fun h => absurd h List.not_mem_nil))
  clear hb hin hnew hrd
  clear HS0
  go_wp2_with (first | ((with_reducible refine wpList_alloc_ob 27 (dvCells nilS dvNil nilS nilS) ?_ ?_); (exact alloc_dv); simp only [Act.put, List.setIfInBounds_toArray, List.set_cons_zero, List.set_cons_succ]) | ((with_reducible refine wpList_store_ob 27 (.tmp 1) (w3.heap.size) (dvCells (.slice ap0 d0.pages.length cp0) d0 (.slice au0 d0.unread.length cu0) (.slice af0 d0.faults.length cf0)) (dvCells nilS dvNil nilS nilS) 27 ?_ ?_ ?_ ?_ ?_ ?_ ?_); (exact rfl); (exact rfl); (exact ((HS1.out).put 27 (dvCells nilS dvNil nilS nilS)).get 1 rfl); (exact info_dv); (exact rfl); (exact (oneCell_dv _ _ _ _ _ _ _ _ _ _)); skip) | ((with_reducible refine wpList_load_ob 27 (.tmp 1) (w3.heap.size) (dvCells (.slice ap0 d0.pages.length cp0) d0 (.slice au0 d0.unread.length cu0) (.slice af0 d0.faults.length cf0)) 27 HUD.out ?_ ?_ ?_ ?_ ?_); (exact rfl); (exact (((HS1.out).put 27 (dvCells nilS dvNil nilS nilS)).row 1 rfl (dvCells (.slice ap0 d0.pages.length cp0) d0 (.slice au0 d0.unread.length cu0) (.slice af0 d0.faults.length cf0))).get 1 rfl); (exact rfl); (exact info_dv); simp only [Act.put, List.setIfInBounds_toArray, List.set_cons_zero, List.set_cons_succ]) | ((with_reducible refine wpList_build_v 29 (.agg (fltCells fltLost).toArray) ?_ ?_); (intro W; simp only [List.map_toArray, List.map_cons, List.map_nil]; exact build_flt2 1 2 W); simp only [Act.put, List.setIfInBounds_toArray, List.set_cons_zero, List.set_cons_succ]))
  refine (dv_as HE.out.1.2.1 (inject_any fltLost _ HDv0.out ((((HS1.out).put 27 (dvCells nilS dvNil nilS nilS)).row 1 rfl (dvCells (.slice ap0 d0.pages.length cp0) d0 (.slice au0 d0.unread.length cu0) (.slice af0 d0.faults.length cf0))).reads 0 rfl) HE.out.2.1.goodDv HFG.out HE.out.2.1.pg HE.out.2.1.fl)).mono ?_
  rintro e w4 ⟨p1, u1, f1, R1, rfl, hrd, hin, hnew, hb⟩
  obtain ⟨ap1, cp1, rfl, _⟩ := hrd.pages
  obtain ⟨au1, cu1, rfl, _⟩ := hrd.unread
  obtain ⟨af1, cf1, rfl, _⟩ := hrd.faults
  have HDv1 := Lib.hid hrd
  have HS2 : Hid (Hp w [.rd R0, .ob (w3.heap.size) 27 (dvCells (.slice ap0 d0.pages.length cp0) d0 (.slice au0 d0.unread.length cu0) (.slice af0 d0.faults.length cf0)), .rd R1] w4) := (((HS1.out).put 27 (dvCells nilS dvNil nilS nilS)).row 1 rfl (dvCells (.slice ap0 d0.pages.length cp0) d0 (.slice au0 d0.unread.length cu0) (.slice af0 d0.faults.length cf0))).addrd hb R1 hin (fun r hr => (hnew r hr).elim .inl (fun h => .inr ⟨.rd R0, List.mem_of_getElem? (i := 0) rfl, List.mem_map.2 ⟨r, h, rfl⟩⟩))
  clear hb hin hnew hrd
  clear HS1
  generalize w3.heap.size = B1 at *
  go_upto_region 3 with (first | ((with_reducible refine wpList_store_ob 27 (.tmp 1) B1 (dvCells (.slice ap1 d1.pages.length cp1) d1 (.slice au1 d1.unread.length cu1) (.slice af1 d1.faults.length cf1)) (dvCells (.slice ap0 d0.pages.length cp0) d0 (.slice au0 d0.unread.length cu0) (.slice af0 d0.faults.length cf0)) 27 ?_ ?_ ?_ ?_ ?_ ?_ ?_); (exact rfl); (exact rfl); (exact (HS2.out).get 1 rfl); (exact info_dv); (exact rfl); (exact (oneCell_dv _ _ _ _ _ _ _ _ _ _)); skip))
  have HS3 : Hid (Hp w [.rd R0, .ob B1 27 (dvCells (.slice ap1 d1.pages.length cp1) d1 (.slice au1 d1.unread.length cu1) (.slice af1 d1.faults.length cf1)), .rd R1] (w4.setRow B1 (dvCells (.slice ap1 d1.pages.length cp1) d1 (.slice au1 d1.unread.length cu1) (.slice af1 d1.faults.length cf1)).toArray)) := (HS2.out).row 1 rfl (dvCells (.slice ap1 d1.pages.length cp1) d1 (.slice au1 d1.unread.length cu1) (.slice af1 d1.faults.length cf1))
  clear HS2
  generalize (w4.setRow B1 (dvCells (.slice ap1 d1.pages.length cp1) d1 (.slice au1 d1.unread.length cu1) (.slice af1 d1.faults.length cf1)).toArray) = w5 at *
  have HS4 : Hid (Hp w [.ob B1 27 (dvCells (.slice ap1 d1.pages.length cp1) d1 (.slice au1 d1.unread.length cu1) (.slice af1 d1.faults.length cf1)), .rd R1] w5) := HS3.out.pull [1, 2] rfl (pull_nd HS3.out.nd [1, 2] rfl (by decide))
  clear HS3
  have m1 : Sem.run Try.prog (Instr.makeSlice 22 (.int .i64 255) (.int .i64 255)) w5.drew = .ok (.slice (some ⟨w5.heap.size, 0, none⟩) 255 255) (w5.alloc (.cells L0.toArray 5)).drew := HMk.out w5.drew
  have m2 : Sem.run Try.prog (Instr.makeSlice 22 (.int .i64 255) (.int .i64 255)) (w5.alloc (.cells L0.toArray 5)).drew = .ok (.slice (some ⟨w5.heap.size + 1, 0, none⟩) 255 255) ((w5.alloc (.cells L0.toArray 5)).alloc (.cells L0.toArray 5)).drew := by
    have h := HMk.out (w5.alloc (.cells L0.toArray 5)).drew
    rw [show (w5.alloc (.cells L0.toArray 5)).drew.heap.size = w5.heap.size + 1 from by simp] at h
    exact h
  have q1 : Sem.run Try.prog (convert 22 9 (.slice (some ⟨w5.heap.size, 0, none⟩) 255 255)) (w5.alloc (.cells L0.toArray 5)).drew = .ok (.string B0) (w5.alloc (.cells L0.toArray 5)).drew := HCv.out _ _ (heap_alloc_last w5 _)
  have q2 : Sem.run Try.prog (convert 22 9 (.slice (some ⟨w5.heap.size, 0, none⟩) 255 255)) ((w5.alloc (.cells L0.toArray 5)).alloc (.cells L0.toArray 5)).drew = .ok (.string B0) ((w5.alloc (.cells L0.toArray 5)).alloc (.cells L0.toArray 5)).drew := HCv.out _ _ (by
    show (w5.heap.push _ |>.push _)[w5.heap.size]? = _
    rw [Array.getElem?_push, if_neg (by simp), Array.getElem?_push, if_pos rfl])
  have q3 : Sem.run Try.prog (convert 22 9 (.slice (some ⟨w5.heap.size + 1, 0, none⟩) 255 255)) ((w5.alloc (.cells L0.toArray 5)).alloc (.cells L0.toArray 5)).drew = .ok (.string B0) ((w5.alloc (.cells L0.toArray 5)).alloc (.cells L0.toArray 5)).drew := HCv.out _ _ (by
    show (w5.heap.push _ |>.push _)[w5.heap.size + 1]? = _
    rw [Array.getElem?_push, if_pos (by simp)])
  have hB255 : B0.size = 255 := HB0.out
  have hca : B0 ++ (⟨#[97]⟩ : ByteArray) = sa := HSS.out.1.symm
  have hcb : B0 ++ (⟨#[98]⟩ : ByteArray) = sb := HSS.out.2.symm
  have HS9 : Hid (Hp w [.ob B1 27 (dvCells (.slice ap1 d1.pages.length cp1) d1 (.slice au1 d1.unread.length cu1) (.slice af1 d1.faults.length cf1)), .rd R1] ((w5.alloc (.cells L0.toArray 5)).alloc (.cells L0.toArray 5)).drew) := (HS4.out.calls (((Below.refl w5.heap.size w5).alloc (Nat.le_refl _) _).alloc (by simp) _)).drew
  go_cut [4, 5] (fun s4 s5 wx => s4 = .string sa ∧ s5 = .string sb ∧ Hp w [.ob B1 27 (dvCells (.slice ap1 d1.pages.length cp1) d1 (.slice au1 d1.unread.length cu1) (.slice af1 d1.faults.length cf1)), .rd R1] wx)
  case first =>
    go_region
    all_goals (go_wp2_with fail; go_meet; exact ⟨rfl, rfl, HS9.out⟩)
  case rest =>
    obtain ⟨rfl, rfl, hs9⟩ := hcut
    clear m1 m2 q1 q2 q3 hB255 hca hcb HS9 HS4
    have HS10 := Lib.hid hs9
    clear hs9
    generalize wc = w50 at *
    go_wp2_with (first | ((with_reducible refine wpList_load_ob 27 (.tmp 1) B1 (dvCells (.slice ap1 d1.pages.length cp1) d1 (.slice au1 d1.unread.length cu1) (.slice af1 d1.faults.length cf1)) 27 HUD.out ?_ ?_ ?_ ?_ ?_); (exact rfl); (exact (HS10.out).get 0 rfl); (exact rfl); (exact info_dv); simp only [Act.put, List.setIfInBounds_toArray, List.set_cons_zero, List.set_cons_succ]))
    refine (dv_as HE.out.1.2.2.1 (write_any 0 sa _ HDv1.out ((HS10.out).reads 1 rfl) HE.out.2.2.1.goodDv HZ.out.1 HE.out.2.2.1.pg HE.out.2.2.1.fl)).mono ?_
    rintro e w61 ⟨p2, u2, f2, R2, rfl, hrd, hin, hnew, hb⟩
    obtain ⟨ap2, cp2, rfl, _⟩ := hrd.pages
    obtain ⟨au2, cu2, rfl, _⟩ := hrd.unread
    obtain ⟨af2, cf2, rfl, _⟩ := hrd.faults
    have HDv2 := Lib.hid hrd
    have HS11 : Hid (Hp w [.ob B1 27 (dvCells (.slice ap1 d1.pages.length cp1) d1 (.slice au1 d1.unread.length cu1) (.slice af1 d1.faults.length cf1)), .rd R1, .rd R2] w61) := (HS10.out).addrd hb R2 hin (fun r hr => (hnew r hr).elim .inl (fun h => .inr ⟨.rd R1, List.mem_of_getElem? (i := 1) rfl, List.mem_map.2 ⟨r, h, rfl⟩⟩))
    clear hb hin hnew hrd
    clear HS10
    go_wp2_with (first | ((with_reducible refine wpList_store_ob 27 (.tmp 1) B1 (dvCells (.slice ap2 d2.pages.length cp2) d2 (.slice au2 d2.unread.length cu2) (.slice af2 d2.faults.length cf2)) (dvCells (.slice ap1 d1.pages.length cp1) d1 (.slice au1 d1.unread.length cu1) (.slice af1 d1.faults.length cf1)) 27 ?_ ?_ ?_ ?_ ?_ ?_ ?_); (exact rfl); (exact rfl); (exact (HS11.out).get 0 rfl); (exact info_dv); (exact rfl); (exact (oneCell_dv _ _ _ _ _ _ _ _ _ _)); skip) | ((with_reducible refine wpList_load_ob 27 (.tmp 1) B1 (dvCells (.slice ap2 d2.pages.length cp2) d2 (.slice au2 d2.unread.length cu2) (.slice af2 d2.faults.length cf2)) 27 HUD.out ?_ ?_ ?_ ?_ ?_); (exact rfl); (exact ((HS11.out).row 0 rfl (dvCells (.slice ap2 d2.pages.length cp2) d2 (.slice au2 d2.unread.length cu2) (.slice af2 d2.faults.length cf2))).get 0 rfl); (exact rfl); (exact info_dv); simp only [Act.put, List.setIfInBounds_toArray, List.set_cons_zero, List.set_cons_succ]))
    refine (dv_as HE.out.1.2.2.2.1 (write_any 0 sb _ HDv2.out (((HS11.out).row 0 rfl (dvCells (.slice ap2 d2.pages.length cp2) d2 (.slice au2 d2.unread.length cu2) (.slice af2 d2.faults.length cf2))).reads 2 rfl) HE.out.2.2.2.1.goodDv HZ.out.2 HE.out.2.2.2.1.pg HE.out.2.2.2.1.fl)).mono ?_
    rintro e w62 ⟨p3, u3, f3, R3, rfl, hrd, hin, hnew, hb⟩
    obtain ⟨ap3, cp3, rfl, _⟩ := hrd.pages
    obtain ⟨au3, cu3, rfl, _⟩ := hrd.unread
    obtain ⟨af3, cf3, rfl, _⟩ := hrd.faults
    have HDv3 := Lib.hid hrd
    have HS12 : Hid (Hp w [.ob B1 27 (dvCells (.slice ap2 d2.pages.length cp2) d2 (.slice au2 d2.unread.length cu2) (.slice af2 d2.faults.length cf2)), .rd R1, .rd R2, .rd R3] w62) := ((HS11.out).row 0 rfl (dvCells (.slice ap2 d2.pages.length cp2) d2 (.slice au2 d2.unread.length cu2) (.slice af2 d2.faults.length cf2))).addrd hb R3 hin (fun r hr => (hnew r hr).elim .inl (fun h => .inr ⟨.rd R2, List.mem_of_getElem? (i := 2) rfl, List.mem_map.2 ⟨r, h, rfl⟩⟩))
    clear hb hin hnew hrd
    clear HS11
    go_wp2_with (first | ((with_reducible refine wpList_store_ob 27 (.tmp 1) B1 (dvCells (.slice ap3 d3.pages.length cp3) d3 (.slice au3 d3.unread.length cu3) (.slice af3 d3.faults.length cf3)) (dvCells (.slice ap2 d2.pages.length cp2) d2 (.slice au2 d2.unread.length cu2) (.slice af2 d2.faults.length cf2)) 27 ?_ ?_ ?_ ?_ ?_ ?_ ?_); (exact rfl); (exact rfl); (exact (HS12.out).get 0 rfl); (exact info_dv); (exact rfl); (exact (oneCell_dv _ _ _ _ _ _ _ _ _ _)); skip) | ((with_reducible refine wpList_load_ob 27 (.tmp 1) B1 (dvCells (.slice ap3 d3.pages.length cp3) d3 (.slice au3 d3.unread.length cu3) (.slice af3 d3.faults.length cf3)) 27 HUD.out ?_ ?_ ?_ ?_ ?_); (exact rfl); (exact ((HS12.out).row 0 rfl (dvCells (.slice ap3 d3.pages.length cp3) d3 (.slice au3 d3.unread.length cu3) (.slice af3 d3.faults.length cf3))).get 0 rfl); (exact rfl); (exact info_dv); simp only [Act.put, List.setIfInBounds_toArray, List.set_cons_zero, List.set_cons_succ]))
    refine (HE.out.1.2.2.2.2 ▸ read_any 0 _ HDv3.out (((HS12.out).row 0 rfl (dvCells (.slice ap3 d3.pages.length cp3) d3 (.slice au3 d3.unread.length cu3) (.slice af3 d3.faults.length cf3))).reads 3 rfl) HE.out.2.2.2.2.goodDv).mono ?_
    rintro e w63 ⟨rfl, hb⟩
    have HS13 : Hid (Hp w [.ob B1 27 (dvCells (.slice ap3 d3.pages.length cp3) d3 (.slice au3 d3.unread.length cu3) (.slice af3 d3.faults.length cf3)), .rd R1, .rd R2, .rd R3] w63) := ((HS12.out).row 0 rfl (dvCells (.slice ap3 d3.pages.length cp3) d3 (.slice au3 d3.unread.length cu3) (.slice af3 d3.faults.length cf3))).calls hb
    clear hb
    clear HS12
    go_wp2_with fail
    go_ret
    exact ⟨rfl, HS13.out.old⟩
end Go.Proofs.Ythcjkbhkidijoaa
