/- the reference's Write -/
import Derived.Test.YthcjkbhkidijoaaOm3
import Derived.Test.YthcjkbhkidijoaaOm1
import Derived.Test.YthcjkbhkidijoaaOm2
import Derived.Deep.CutBlock
namespace Go.Proofs.Ythcjkbhkidijoaa
open Go.RowKit
set_option maxRecDepth 20000
set_option linter.unusedSimpArgs false
set_option linter.unusedVariables false

/-- what loop 2 has of the device: the write is done, or all that is left decides -/
def LandSt (D2 : Dv) (k : Nat) (s : ByteArray) (l : List Flt) (i : Nat) : Bool → Dv → Prop
  | true, dd => dd = landR D2 k s l
  | false, dd => dd = D2 ∧ landR D2 k s l = landR D2 k s (l.drop i)
def LandEnd (D2 : Dv) (k : Nat) (s : ByteArray) (l : List Flt) : Bool → Dv → Prop
  | true, dd => dd = landR D2 k s l
  | false, dd => dd = D2 ∧ landR D2 k s l = placeR D2 k s 256
theorem LandSt.start (D2 : Dv) (k : Nat) (s : ByteArray) (l : List Flt) : LandSt D2 k s l 0 false D2 := ⟨rfl, rfl⟩
theorem LandSt.is {D2 dd : Dv} {k : Nat} {s : ByteArray} {l : List Flt} {i : Nat} (h : LandSt D2 k s l i false dd) : dd = D2 := h.1
theorem LandSt.done {D2 dd : Dv} {k : Nat} {s : ByteArray} {l : List Flt} {i : Nat} (h : LandSt D2 k s l i true dd) : LandEnd D2 k s l true dd := h
theorem LandSt.last {D2 dd : Dv} {k : Nat} {s : ByteArray} {l : List Flt} {i : Nat} {dn : Bool} (hi : l.length ≤ i) (h : LandSt D2 k s l i dn dd) : LandEnd D2 k s l dn dd := by
  cases dn
  · refine ⟨h.1, ?_⟩
    rw [h.2, List.drop_eq_nil_of_le hi]
    rfl
  · exact h
theorem drop_at {l : List Flt} {i : Nat} {x : Flt} (h : l[i]? = some x) : l.drop i = x :: l.drop (i + 1) := by
  obtain ⟨hi, hx⟩ := List.getElem?_eq_some_iff.1 h
  rw [List.drop_eq_getElem_cons hi, hx]
theorem LandSt.lost {D2 dd : Dv} {k : Nat} {s : ByteArray} {l : List Flt} {i : Nat} {x : Flt} (hx : l[i]? = some x) (h1 : x.kind = 1) (h : LandSt D2 k s l i false dd) : LandSt D2 k s l (i + 1) true dd := by
  show dd = _
  rw [h.1, h.2, drop_at hx, landR, if_pos h1]
theorem LandSt.none {D2 dd : Dv} {k : Nat} {s : ByteArray} {l : List Flt} {i : Nat} {x : Flt} (hx : l[i]? = some x) (h1 : ¬ x.kind = 1) (h2 : ¬ x.kind = 2) (h3 : ¬ x.kind = 3) (h : LandSt D2 k s l i false dd) : LandSt D2 k s l (i + 1) false dd := by
  refine ⟨h.1, ?_⟩
  rw [h.2, drop_at hx, landR, if_neg h1, if_neg h2, if_neg h3]
theorem LandSt.astray {D2 dd : Dv} {k : Nat} {s : ByteArray} {l : List Flt} {i : Nat} {x : Flt} (hx : l[i]? = some x) (h2 : x.kind = 2) (h : LandSt D2 k s l i false dd) : LandSt D2 k s l (i + 1) true (placeR dd x.target s 256) := by
  show _ = _
  rw [h.1, h.2, drop_at hx, landR, if_neg (by rw [h2]; decide), if_pos h2]
theorem LandSt.torn {D2 dd : Dv} {k : Nat} {s : ByteArray} {l : List Flt} {i : Nat} {x : Flt} (hx : l[i]? = some x) (h3 : x.kind = 3) (h : LandSt D2 k s l i false dd) : LandSt D2 k s l (i + 1) true (placeR dd k s x.byte.toNat) := by
  show _ = _
  rw [h.1, h.2, drop_at hx, landR, if_neg (by rw [h3]; decide), if_neg (by rw [h3]; decide), if_pos h3]
theorem wp_load_ob {o : Oper} {a : Act} {w : World} {K : Act → World → Prop} {Q : Exit → Act → World → Prop} (t : TypeId) (x : Operand) (b : Nat) (cs : List Value) (t0 : TypeId) {ds : TypeDesc} (hu : Try.prog.underlying t = some ds) (ho : o.op = .load t x) (hx : a.eval x = .pointer (some ⟨b, 0, none⟩)) (hg : w.heap[b]? = some (.cells cs.toArray t0 (0, 0)))
    (hd : ds.isRow = true) (hi : (Try.prog.info? t).map (·.size) = some cs.length) (h : K (a.put o.dst (.agg cs.toArray)) w) : o.wp Try.prog a w K Q :=
  wp_load_row t x ho b hx t0 cs.toArray (0, 0) ds hg hu (by cases ds <;> simp_all) (by rw [List.size_toArray]; exact hi) h
set_option maxHeartbeats 16000000 in
theorem rwrite_any {p u f : Value} {d : Dv} {R : List Rng} (page : Int) (s : ByteArray) (w : World) (h : DvRd p u f d R) (hR : RdIn w R) (hg : GoodDv d) (hss : s.size ≤ maxLen) (hp : d.pages.length ≤ 1000) (hf : d.faults.length ≤ 1000) :
    Calls Try.prog 21 #[.agg (dvCells p d u f).toArray, .int .i64 page, .string s] w (DvPost w R (writeR d page s)) := by
  have HV : Hid (∀ W, Below w.heap.size w W → Calls Try.prog 47 #[.agg (dvCells p d u f).toArray, .int .i64 page] W fun e w' => e = .returned (.int .i64 (usableR d page)) ∧ Below W.heap.size W w') := fun W hb => rusable_any page W h (hR.below hb) hg
  have HCp : Hid (∀ W, Below w.heap.size w W → Calls Try.prog 36 #[.agg (dvCells p d u f).toArray] W fun e w' => ∃ v, e = .returned v ∧ OwnDv W w' v d) := fun W hb => copy_any W h (hR.below hb) hp hg.unread hf
  have HGf : Hid (∀ x ∈ d.faults, GoodFlt x) := hg.faults
  have HLf := Lib.hid hf
  obtain ⟨fs, hud⟩ := under_dv
  have HUD := Lib.hid hud
  obtain ⟨fs2, huf⟩ := under_flt
  have HUF := Lib.hid huf
  clear hud huf
  obtain ⟨pa, pc, rfl, hp1, hp3, hP2⟩ := h.pages.open hR
  obtain ⟨ua, uc, rfl, hu1, hu3, hU2⟩ := h.unread.open hR
  obtain ⟨fa, fc, rfl, hf1, hf3, hF2⟩ := h.faults.open hR
  have HFat := hF2
  clear h hR hg hP2 hU2 hF2 hf hp
  have h1 := ((Hp.start w).put 27 (dvCells (.slice pa d.pages.length pc) d (.slice ua d.unread.length uc) (.slice fa d.faults.length fc))).put 27 (dvCells nilS dvNil nilS nilS)
  simp only [World.size_alloc, List.nil_append, List.cons_append] at h1
  have HS0 : Hid (Hp w [.ob w.heap.size 27 (dvCells (.slice pa d.pages.length pc) d (.slice ua d.unread.length uc) (.slice fa d.faults.length fc)), .ob (w.heap.size + 1) 27 (dvCells nilS dvNil nilS nilS)] ((w.alloc (.cells (dvCells (.slice pa d.pages.length pc) d (.slice ua d.unread.length uc) (.slice fa d.faults.length fc)).toArray 27)).alloc (.cells #[.slice none 0 0, .int .i64 0, .slice none 0 0, .bool false, .slice none 0 0] 27))) := h1
  clear h1 hp1 hp3 hu1 hu3 hf1 hf3
  have hsm : (s.size : Int) ≤ 9223372036854775807 := by unfold maxLen at hss; omega
  clear hss
  go_enter Try.func21, Try.ntmps21
  go_wp2_with (first | ((with_reducible refine wpList_load_ob 27 (.tmp 3) (w.heap.size) (dvCells (.slice pa d.pages.length pc) d (.slice ua d.unread.length uc) (.slice fa d.faults.length fc)) 27 HUD.out ?_ ?_ ?_ ?_ ?_); (exact rfl); (exact (HS0.out).get 0 rfl); (exact rfl); (exact info_dv); simp only [Act.put, List.setIfInBounds_toArray, List.set_cons_zero, List.set_cons_succ]))
  refine (HV.out _ (HS0.out).old).mono ?_
  rintro e w3 ⟨rfl, hb⟩
  have HS2 : Hid (Hp w [.ob (w.heap.size) 27 (dvCells (.slice pa d.pages.length pc) d (.slice ua d.unread.length uc) (.slice fa d.faults.length fc)), .ob ((w.heap.size + 1)) 27 (dvCells nilS dvNil nilS nilS)] w3) := (HS0.out).calls hb
  clear hb
  clear HS0
  generalize (w.heap.size + 1) = B1 at *
  clear HV
  by_cases hv : usableR d page = 0
  case neg =>
    have HX := Lib.hid hv
    have hq : (usableR d page != 0) = true := by rw [bne_iff_ne]; exact hv
    clear hv
    go_wp2_with (first | ((with_reducible refine wpList_build_v (d := some 22) 27 (.agg (dvCells nilS dvNil nilS nilS).toArray) ?_ ?_); (intro W; simp only [List.map_toArray, List.map_cons, List.map_nil]; exact build_dv0 W); simp only [Act.put, List.setIfInBounds_toArray, List.set_cons_zero, List.set_cons_succ]) | ((with_reducible refine wpList_store_ob 27 (.tmp 6) B1 (dvCells nilS dvNil nilS nilS) (dvCells nilS dvNil nilS nilS) 27 ?_ ?_ ?_ ?_ ?_ ?_ ?_); (exact rfl); (exact rfl); (exact (HS2.out).get 1 rfl); (exact info_dv); (exact rfl); (exact (oneCell_dv _ _ _ _ _ _ _ _ _ _)); skip))
    have HS3 : Hid (Hp w [.ob (w.heap.size) 27 (dvCells (.slice pa d.pages.length pc) d (.slice ua d.unread.length uc) (.slice fa d.faults.length fc)), .ob B1 27 (dvCells nilS dvNil nilS nilS)] (w3.setRow B1 (dvCells nilS dvNil nilS nilS).toArray)) := (HS2.out).row 1 rfl (dvCells nilS dvNil nilS nilS)
    clear HS2
    generalize (w3.setRow B1 (dvCells nilS dvNil nilS nilS).toArray) = w4 at *
    refine bodyPost_ret (results_ob_tmp Try.results21 _ _ B1 (dvCells nilS dvNil nilS nilS) 27 _ rfl (HS3.out.get 1 rfl) HUD.out rfl info_dv) rfl ?_
    exact DvPost.none (by unfold writeR; rw [if_pos HX.out]) HS3.out.old
  case pos =>
    have HX : Hid (¬ usableR d page ≠ 0) := fun h => h hv
    have hq : (usableR d page != 0) = false := by rw [hv]; rfl
    obtain ⟨hok, hdd, g0, g1⟩ := usable_ok hv
    have HOk := Lib.hid (ok_inv hok)
    obtain ⟨k, rfl⟩ := Int.eq_ofNat_of_zero_le g0
    have HKn : Hid (k < d.pages.length) := by show _ < _; omega
    clear hv hok hdd g0 g1
    have b1 : w3.cell? ⟨w.heap.size, 1, none⟩ = some (.int .i64 d.writes) := (HS2.out).at 0 rfl 1 rfl
    by_cases hz : s.size = 256
    case neg =>
      have HY := Lib.hid hz
      have hqs : ((s.size : Int) != 256) = true := by rw [bne_iff_ne]; omega
      clear hz
      go_wp2_with (first | ((with_reducible refine wpList_build_v (d := some 27) 27 (.agg (dvCells nilS dvNil nilS nilS).toArray) ?_ ?_); (intro W; simp only [List.map_toArray, List.map_cons, List.map_nil]; exact build_dv0 W); simp only [Act.put, List.setIfInBounds_toArray, List.set_cons_zero, List.set_cons_succ]) | ((with_reducible refine wpList_store_ob 27 (.tmp 6) B1 (dvCells nilS dvNil nilS nilS) (dvCells nilS dvNil nilS nilS) 27 ?_ ?_ ?_ ?_ ?_ ?_ ?_); (exact rfl); (exact rfl); (exact (HS2.out).get 1 rfl); (exact info_dv); (exact rfl); (exact (oneCell_dv _ _ _ _ _ _ _ _ _ _)); skip))
      have HS3 : Hid (Hp w [.ob (w.heap.size) 27 (dvCells (.slice pa d.pages.length pc) d (.slice ua d.unread.length uc) (.slice fa d.faults.length fc)), .ob B1 27 (dvCells nilS dvNil nilS nilS)] (w3.setRow B1 (dvCells nilS dvNil nilS nilS).toArray)) := (HS2.out).row 1 rfl (dvCells nilS dvNil nilS nilS)
      clear HS2
      generalize (w3.setRow B1 (dvCells nilS dvNil nilS nilS).toArray) = w4 at *
      refine bodyPost_ret (results_ob_tmp Try.results21 _ _ B1 (dvCells nilS dvNil nilS nilS) 27 _ rfl (HS3.out.get 1 rfl) HUD.out rfl info_dv) rfl ?_
      exact DvPost.none (by unfold writeR; rw [if_neg HX.out, if_pos HY.out]) HS3.out.old
    case pos =>
      have HY : Hid (¬ s.size ≠ 256) := fun h => h hz
      have HSz := Lib.hid hz
      have hqs : ((s.size : Int) != 256) = false := by rw [hz]; rfl
      clear hz
      by_cases hl : d.writes = 1099511627776
      case pos =>
        have HZ := Lib.hid hl
        have hql : (d.writes == 1099511627776) = true := by rw [hl]; rfl
        clear hl
        go_wp2_with (first | ((with_reducible refine wpList_build_v (d := some 31) 27 (.agg (dvCells nilS dvNil nilS nilS).toArray) ?_ ?_); (intro W; simp only [List.map_toArray, List.map_cons, List.map_nil]; exact build_dv0 W); simp only [Act.put, List.setIfInBounds_toArray, List.set_cons_zero, List.set_cons_succ]) | ((with_reducible refine wpList_store_ob 27 (.tmp 6) B1 (dvCells nilS dvNil nilS nilS) (dvCells nilS dvNil nilS nilS) 27 ?_ ?_ ?_ ?_ ?_ ?_ ?_); (exact rfl); (exact rfl); (exact (HS2.out).get 1 rfl); (exact info_dv); (exact rfl); (exact (oneCell_dv _ _ _ _ _ _ _ _ _ _)); skip))
        have HS3 : Hid (Hp w [.ob (w.heap.size) 27 (dvCells (.slice pa d.pages.length pc) d (.slice ua d.unread.length uc) (.slice fa d.faults.length fc)), .ob B1 27 (dvCells nilS dvNil nilS nilS)] (w3.setRow B1 (dvCells nilS dvNil nilS nilS).toArray)) := (HS2.out).row 1 rfl (dvCells nilS dvNil nilS nilS)
        clear HS2
        generalize (w3.setRow B1 (dvCells nilS dvNil nilS nilS).toArray) = w4 at *
        refine bodyPost_ret (results_ob_tmp Try.results21 _ _ B1 (dvCells nilS dvNil nilS nilS) 27 _ rfl (HS3.out.get 1 rfl) HUD.out rfl info_dv) rfl ?_
        exact DvPost.none (by unfold writeR; rw [if_neg HX.out, if_neg HY.out, if_pos HZ.out]) HS3.out.old
      case neg =>
        have HZ := Lib.hid hl
        have hql : (d.writes == 1099511627776) = false := by rw [beq_eq_false_iff_ne]; exact hl
        have hwr : IntKind.i64.wrap (d.writes + 1) = d.writes + 1 := by rw [IntKind.wrap_i64]; have := HOk.out.2.2.2; omega
        clear hl
        go_wp2_with (first | ((with_reducible refine wpList_load_ob 27 (.tmp 3) (w.heap.size) (dvCells (.slice pa d.pages.length pc) d (.slice ua d.unread.length uc) (.slice fa d.faults.length fc)) 27 HUD.out ?_ ?_ ?_ ?_ ?_); (exact rfl); (exact (HS2.out).get 0 rfl); (exact rfl); (exact info_dv); simp only [Act.put, List.setIfInBounds_toArray, List.set_cons_zero, List.set_cons_succ]))
        refine (HCp.out _ (HS2.out).old).mono ?_
        rintro e w20 ⟨v, rfl, p', u', f', rfl, hk⟩
        obtain ⟨a1, c1, rfl⟩ := own_slice (hk.own 0 rfl)
        obtain ⟨a2, c2, rfl⟩ := own_slice (hk.own 1 rfl)
        obtain ⟨a3, c3, rfl⟩ := own_slice (hk.own 2 rfl)
        have HS3 : Hid (Hp w [.ob (w.heap.size) 27 (dvCells (.slice pa d.pages.length pc) d (.slice ua d.unread.length uc) (.slice fa d.faults.length fc)), .ob B1 27 (dvCells nilS dvNil nilS nilS), .sl ((.slice a1 d.pages.length c1)) 9 1 (d.pages.length) (strRow d.pages), .sl ((.slice a2 d.unread.length c2)) 3 1 (d.unread.length) (intRow d.unread), .sl ((.slice a3 d.faults.length c3)) 29 6 (d.faults.length) (fltRow d.faults)] w20) := (HS2.out).join hk (three_sl (sl_plain _ _ _ _ _) (sl_plain _ _ _ _ _) (sl_plain _ _ _ _ _))
        clear HS2
        clear HCp b1 hk
        go_upto_region 9 with (first | ((with_reducible refine wpList_alloc_ob 27 (dvCells nilS dvNil nilS nilS) ?_ ?_); (exact alloc_dv); simp only [Act.put, List.setIfInBounds_toArray, List.set_cons_zero, List.set_cons_succ]) | ((with_reducible refine wpList_store_ob 27 (.tmp 9) (w20.heap.size) (dvCells (.slice a1 d.pages.length c1) d (.slice a2 d.unread.length c2) (.slice a3 d.faults.length c3)) (dvCells nilS dvNil nilS nilS) 27 ?_ ?_ ?_ ?_ ?_ ?_ ?_); (exact rfl); (exact rfl); (exact ((HS3.out).put 27 (dvCells nilS dvNil nilS nilS)).get 5 rfl); (exact info_dv); (exact rfl); (exact (oneCell_dv _ _ _ _ _ _ _ _ _ _)); skip))
        have HS4 : Hid (Hp w [.ob (w.heap.size) 27 (dvCells (.slice pa d.pages.length pc) d (.slice ua d.unread.length uc) (.slice fa d.faults.length fc)), .ob B1 27 (dvCells nilS dvNil nilS nilS), .sl ((.slice a1 d.pages.length c1)) 9 1 (d.pages.length) (strRow d.pages), .sl ((.slice a2 d.unread.length c2)) 3 1 (d.unread.length) (intRow d.unread), .sl ((.slice a3 d.faults.length c3)) 29 6 (d.faults.length) (fltRow d.faults), .ob (w20.heap.size) 27 (dvCells (.slice a1 d.pages.length c1) d (.slice a2 d.unread.length c2) (.slice a3 d.faults.length c3))] ((w20.alloc (.cells (dvCells nilS dvNil nilS nilS).toArray 27)).setRow (w20.heap.size) (dvCells (.slice a1 d.pages.length c1) d (.slice a2 d.unread.length c2) (.slice a3 d.faults.length c3)).toArray)) := ((HS3.out).put 27 (dvCells nilS dvNil nilS nilS)).row 5 rfl (dvCells (.slice a1 d.pages.length c1) d (.slice a2 d.unread.length c2) (.slice a3 d.faults.length c3))
        clear HS3
        generalize ((w20.alloc (.cells (dvCells nilS dvNil nilS nilS).toArray 27)).setRow (w20.heap.size) (dvCells (.slice a1 d.pages.length c1) d (.slice a2 d.unread.length c2) (.slice a3 d.faults.length c3)).toArray) = w21 at *
        generalize w20.heap.size = B2 at *
        have o1 := HS4.out.at 5 rfl 1 rfl
        have p1 := HS4.out.frozen 5 rfl 1
        have o4 := HS4.out.at 5 rfl 4 rfl
        have p4 := HS4.out.frozen 5 rfl 4
        have HUX : Hid (Try.prog.underlying 25 = some (.slice 29)) := Try.underlying25
        go_wp2_with fail
        have HS5 : Hid (Hp w [.ob w.heap.size 27 (dvCells (.slice pa d.pages.length pc) d (.slice ua d.unread.length uc) (.slice fa d.faults.length fc)), .ob B1 27 (dvCells nilS dvNil nilS nilS), .sl (.slice a1 d.pages.length c1) 9 1 d.pages.length (strRow d.pages), .sl (.slice a2 d.unread.length c2) 3 1 d.unread.length (intRow d.unread), .ob B2 27 (dvCells (.slice a1 d.pages.length c1) (⟨d.pages, d.writes + 1, d.unread, d.dead, []⟩ : Dv) (.slice a2 d.unread.length c2) (.slice none ((d.faults.take 0).filter fun x => !decide (x.at_ = d.writes + 1)).length 0)), .sl nilS 29 6 ((d.faults.take 0).filter fun x => decide (x.at_ = d.writes + 1)).length (fltRow ((d.faults.take 0).filter fun x => decide (x.at_ = d.writes + 1))), .sl (.slice none ((d.faults.take 0).filter fun x => !decide (x.at_ = d.writes + 1)).length 0) 29 6 ((d.faults.take 0).filter fun x => !decide (x.at_ = d.writes + 1)).length (fltRow ((d.faults.take 0).filter fun x => !decide (x.at_ = d.writes + 1)))] ((w21.setCell ⟨B2, 1, none⟩ (.int .i64 (d.writes + 1))).setCell ⟨B2, 4, none⟩ (.slice none 0 0))) := by
          have h := (HS4.out.set 5 rfl 1 (.int .i64 (d.writes + 1))).set 5 rfl 4 nilS
          have h2 : Hp w [.ob w.heap.size 27 (dvCells (.slice pa d.pages.length pc) d (.slice ua d.unread.length uc) (.slice fa d.faults.length fc)), .ob B1 27 (dvCells nilS dvNil nilS nilS), .sl (.slice a1 d.pages.length c1) 9 1 d.pages.length (strRow d.pages), .sl (.slice a2 d.unread.length c2) 3 1 d.unread.length (intRow d.unread), .ob B2 27 (dvCells (.slice a1 d.pages.length c1) (⟨d.pages, d.writes + 1, d.unread, d.dead, []⟩ : Dv) (.slice a2 d.unread.length c2) nilS)] _ := h.pull [0, 1, 2, 3, 5] rfl (pull_nd h.nd [0, 1, 2, 3, 5] rfl (by decide))
          exact Lib.hid ((h2.nil 29 6).nil 29 6)
        clear o1 p1 o4 p4 HS4
        generalize (w21.setCell ⟨B2, 1, none⟩ (.int .i64 (d.writes + 1))).setCell ⟨B2, 4, none⟩ (.slice none 0 0) = w30 at *
        go_loopw [10, 11] (fun sn si wr => ∃ (v1 : Value) (af : Option Addr) (cf : Nat) (i : Nat), v1 = sn ∧ si = .int .i64 i ∧ i ≤ d.faults.length ∧ Hp w [.ob w.heap.size 27 (dvCells (.slice pa d.pages.length pc) d (.slice ua d.unread.length uc) (.slice fa d.faults.length fc)), .ob B1 27 (dvCells nilS dvNil nilS nilS), .sl (.slice a1 d.pages.length c1) 9 1 d.pages.length (strRow d.pages), .sl (.slice a2 d.unread.length c2) 3 1 d.unread.length (intRow d.unread), .ob B2 27 (dvCells (.slice a1 d.pages.length c1) (⟨d.pages, d.writes + 1, d.unread, d.dead, []⟩ : Dv) (.slice a2 d.unread.length c2) (.slice af ((d.faults.take i).filter fun x => !decide (x.at_ = d.writes + 1)).length cf)), .sl v1 29 6 ((d.faults.take i).filter fun x => decide (x.at_ = d.writes + 1)).length (fltRow ((d.faults.take i).filter fun x => decide (x.at_ = d.writes + 1))), .sl (.slice af ((d.faults.take i).filter fun x => !decide (x.at_ = d.writes + 1)).length cf) 29 6 ((d.faults.take i).filter fun x => !decide (x.at_ = d.writes + 1)).length (fltRow ((d.faults.take i).filter fun x => !decide (x.at_ = d.writes + 1)))] wr) (fun _ si _ => d.faults.length - (intOf si).toNat)
        case atStart => exact ⟨nilS, none, 0, 0, rfl, rfl, Nat.zero_le _, HS5.out⟩
        case round =>
          obtain ⟨v1, af, cf, i, hv, rfl, hi, hs⟩ := hrel
          subst hv
          clear HS5
          have HQ := Lib.hid hs
          clear hs
          have c4 : wr.cell? ⟨w.heap.size, 4, none⟩ = some (.slice fa d.faults.length fc) := HQ.out.at 0 rfl 4 rfl
          have hi0 : (0 : Int) ≤ (i : Int) := by omega
          have him : (i : Int) ≤ 1000 := by have := HLf.out; omega
          by_cases hlt : i < d.faults.length
          · have hii : (i : Int) < (d.faults.length : Int) := by omega
            have HLt := Lib.hid hlt
            obtain ⟨gf, og, rfl, hr⟩ := HFat.out (by omega)
            obtain ⟨x, hx⟩ : ∃ x, d.faults[i] = x := ⟨_, rfl⟩
            have HRow : Hid (∀ W, Below w.heap.size w W → W.rangeAt gf (og + i * 6) (fltCells x)) := Lib.hid (fun W hb j u hu => by rw [Nat.add_assoc]; exact hr W hb (i * 6 + j) u (fltRow_at d.faults i hlt j u (hx.symm ▸ hu)))
            have HTk : Hid (d.faults.take (i + 1) = d.faults.take i ++ [x]) := Lib.hid (hx ▸ List.take_succ_eq_append_getElem hlt)
            clear hr hlt hi hx
            go_upto_region 15 with (fail)
            clear c4
            have c4 : wr.drew.cell? ⟨w.heap.size, 4, none⟩ = some (.slice (some ⟨gf, og, none⟩) d.faults.length fc) := HQ.out.drew.at 0 rfl 4 rfl
            have c1 : wr.drew.cell? ⟨B2, 1, none⟩ = some (.int .i64 (d.writes + 1)) := HQ.out.drew.at 4 rfl 1 rfl
            have ce : wr.drew.cell? ⟨gf, og + i * 6 + 1, none⟩ = some (.int .i64 x.at_) := HRow.out _ HQ.out.drew.old 1 _ rfl
            go_region
            clear c4 c1 ce
            have HQ1 : Hid (Hp w [.ob w.heap.size 27 (dvCells (.slice pa d.pages.length pc) d (.slice ua d.unread.length uc) (.slice (some ⟨gf, og, none⟩) d.faults.length fc)), .ob B1 27 (dvCells nilS dvNil nilS nilS), .sl (.slice a1 d.pages.length c1) 9 1 d.pages.length (strRow d.pages), .sl (.slice a2 d.unread.length c2) 3 1 d.unread.length (intRow d.unread), .ob B2 27 (dvCells (.slice a1 d.pages.length c1) (⟨d.pages, d.writes + 1, d.unread, d.dead, []⟩ : Dv) (.slice a2 d.unread.length c2) (.slice af ((d.faults.take i).filter fun x => !decide (x.at_ = d.writes + 1)).length cf)), .sl v1 29 6 ((d.faults.take i).filter fun x => decide (x.at_ = d.writes + 1)).length (fltRow ((d.faults.take i).filter fun x => decide (x.at_ = d.writes + 1))), .sl (.slice af ((d.faults.take i).filter fun x => !decide (x.at_ = d.writes + 1)).length cf) 29 6 ((d.faults.take i).filter fun x => !decide (x.at_ = d.writes + 1)).length (fltRow ((d.faults.take i).filter fun x => !decide (x.at_ = d.writes + 1)))] wr.drew) := HQ.out.drew
            clear HQ
            generalize wr.drew = w31 at *
            by_cases hat : x.at_ = d.writes + 1
            · have hab : (x.at_ == d.writes + 1) = true := by rw [hat]; simp
              have c4 : w31.cell? ⟨w.heap.size, 4, none⟩ = some (.slice (some ⟨gf, og, none⟩) d.faults.length fc) := HQ1.out.at 0 rfl 4 rfl
              have HAt := Lib.hid hat
              have HNl : Hid (((d.faults.take i).filter fun x => decide (x.at_ = d.writes + 1)).length ≤ 1000) := Lib.hid (Nat.le_trans (List.length_filter_le _ _) (by rw [List.length_take]; have := HLf.out; omega))
              clear hat
              go_wp2_with (first | ((with_reducible refine wpList_load_at 29 (.tmp 59) gf ((og + i * 6)) (fltCells x) HUF.out ?_ ?_ ?_ ?_ ?_); (exact rfl); (exact HRow.out _ (HQ1.out).old); (exact rfl); (exact info_flt); simp only [Act.put, List.setIfInBounds_toArray, List.set_cons_zero, List.set_cons_succ]) | ((with_reducible refine wpList_build_obs 25 1 elem_flt HUX.out [fltCells x] ?_ ?_ ?_ ?_ ?_ ?_); (exact (List.forall_mem_cons.2 ⟨rfl, (fun _ h => absurd h List.not_mem_nil)⟩)); (exact Nat.succ_pos _); (simp only [List.length_cons, List.length_nil]; omega); (exact rfl); (simp only [List.map_toArray, List.map_cons, List.map_nil, List.zipIdx_cons, List.zipIdx_nil]; exact rfl); simp only [Act.put, List.setIfInBounds_toArray, List.set_cons_zero, List.set_cons_succ]) | ((with_reducible refine wpList_append_hp ((HQ1.out).put 29 (([fltCells x] : List (List Value)).flatMap id)) (.tmp 55) (.tmp 61) 25 5 (v := v1) (e := 29) (z := 6) (n := ((d.faults.take i).filter fun x => decide (x.at_ = d.writes + 1)).length) (xs := fltRow ((d.faults.take i).filter fun x => decide (x.at_ = d.writes + 1))) ?_ 7 (b := (w31.heap.size)) (t' := 29) (ys := ([fltCells x] : List (List Value)).flatMap id) ?_ HUX.out elem_flt 1 1 ?_ ?_ ?_ ?_ ?_ ?_); (exact rfl); (exact rfl); (exact rfl); (exact rfl); (exact rfl); (exact (one_flt x)); (exact (by have := HNl.out; omega))))
              intro v41 w41 hs hnil
              have HS42 : Hid (Hp w [.ob (w.heap.size) 27 (dvCells (.slice pa d.pages.length pc) d (.slice ua d.unread.length uc) (.slice (some ⟨gf, og, none⟩) d.faults.length fc)), .ob B1 27 (dvCells nilS dvNil nilS nilS), .sl ((.slice a1 d.pages.length c1)) 9 1 (d.pages.length) (strRow d.pages), .sl ((.slice a2 d.unread.length c2)) 3 1 (d.unread.length) (intRow d.unread), .ob B2 27 (dvCells (.slice a1 d.pages.length c1) (⟨d.pages, d.writes + 1, d.unread, d.dead, []⟩ : Dv) (.slice a2 d.unread.length c2) (.slice af ((d.faults.take i).filter fun x => !decide (x.at_ = d.writes + 1)).length cf)), .sl v41 29 6 (((d.faults.take i).filter fun x => decide (x.at_ = d.writes + 1)).length + 1) ((fltRow ((d.faults.take i).filter fun x => decide (x.at_ = d.writes + 1))) ++ (([fltCells x] : List (List Value)).flatMap id)), .sl ((.slice af ((d.faults.take i).filter fun x => !decide (x.at_ = d.writes + 1)).length cf)) 29 6 (((d.faults.take i).filter fun x => !decide (x.at_ = d.writes + 1)).length) (fltRow ((d.faults.take i).filter fun x => !decide (x.at_ = d.writes + 1))), .ob (w31.heap.size) 29 (([fltCells x] : List (List Value)).flatMap id)] w41) := hs
              clear hs
              clear HQ1
              generalize w31.heap.size = B3 at *
              go_wp2_with fail
              have HS43 : Hid (Hp w [.ob (w.heap.size) 27 (dvCells (.slice pa d.pages.length pc) d (.slice ua d.unread.length uc) (.slice (some ⟨gf, og, none⟩) d.faults.length fc)), .ob B1 27 (dvCells nilS dvNil nilS nilS), .sl ((.slice a1 d.pages.length c1)) 9 1 (d.pages.length) (strRow d.pages), .sl ((.slice a2 d.unread.length c2)) 3 1 (d.unread.length) (intRow d.unread), .ob B2 27 (dvCells (.slice a1 d.pages.length c1) (⟨d.pages, d.writes + 1, d.unread, d.dead, []⟩ : Dv) (.slice a2 d.unread.length c2) (.slice af ((d.faults.take i).filter fun x => !decide (x.at_ = d.writes + 1)).length cf)), .sl v41 29 6 (((d.faults.take i).filter fun x => decide (x.at_ = d.writes + 1)).length + 1) ((fltRow ((d.faults.take i).filter fun x => decide (x.at_ = d.writes + 1))) ++ (([fltCells x] : List (List Value)).flatMap id)), .sl ((.slice af ((d.faults.take i).filter fun x => !decide (x.at_ = d.writes + 1)).length cf)) 29 6 (((d.faults.take i).filter fun x => !decide (x.at_ = d.writes + 1)).length) (fltRow ((d.faults.take i).filter fun x => !decide (x.at_ = d.writes + 1))), .ob B3 29 (([fltCells x] : List (List Value)).flatMap id)] w41) := HS42.out
              clear HS42
              have HS44 : Hid (Hp w [.ob (w.heap.size) 27 (dvCells (.slice pa d.pages.length pc) d (.slice ua d.unread.length uc) (.slice (some ⟨gf, og, none⟩) d.faults.length fc)), .ob B1 27 (dvCells nilS dvNil nilS nilS), .sl ((.slice a1 d.pages.length c1)) 9 1 (d.pages.length) (strRow d.pages), .sl ((.slice a2 d.unread.length c2)) 3 1 (d.unread.length) (intRow d.unread), .ob B2 27 (dvCells (.slice a1 d.pages.length c1) (⟨d.pages, d.writes + 1, d.unread, d.dead, []⟩ : Dv) (.slice a2 d.unread.length c2) (.slice af ((d.faults.take i).filter fun x => !decide (x.at_ = d.writes + 1)).length cf)), .sl v41 29 6 (((d.faults.take i).filter fun x => decide (x.at_ = d.writes + 1)).length + 1) ((fltRow ((d.faults.take i).filter fun x => decide (x.at_ = d.writes + 1))) ++ (([fltCells x] : List (List Value)).flatMap id)), .sl ((.slice af ((d.faults.take i).filter fun x => !decide (x.at_ = d.writes + 1)).length cf)) 29 6 (((d.faults.take i).filter fun x => !decide (x.at_ = d.writes + 1)).length) (fltRow ((d.faults.take i).filter fun x => !decide (x.at_ = d.writes + 1)))] w41) := HS43.out.pull [0, 1, 2, 3, 4, 5, 6] rfl (pull_nd HS43.out.nd [0, 1, 2, 3, 4, 5, 6] rfl (by decide))
              clear HS43
              have eN : ((d.faults.take (i + 1)).filter fun x => decide (x.at_ = d.writes + 1)) = ((d.faults.take i).filter fun x => decide (x.at_ = d.writes + 1)) ++ [x] := by rw [HTk.out, List.filter_append, List.filter_cons_of_pos (by simpa using HAt.out)]; rfl
              have eL : ((d.faults.take (i + 1)).filter fun x => !decide (x.at_ = d.writes + 1)) = ((d.faults.take i).filter fun x => !decide (x.at_ = d.writes + 1)) := by rw [HTk.out, List.filter_append, List.filter_cons_of_neg (by simpa using HAt.out)]; simp
              go_roundw
              case rel =>
                refine ⟨v41, af, cf, i + 1, rfl, by go_num, HLt.out, ?_⟩
                rw [eN, eL, List.length_append, fltRow_snoc]
                exact HS44.out
              case measure => simp [intOf]; try (have := HLt.out; omega)
            · have hab : (x.at_ == d.writes + 1) = false := by rw [beq_eq_false_iff_ne]; exact hat
              have HAt := Lib.hid hat
              have HNl : Hid (((d.faults.take i).filter fun x => !decide (x.at_ = d.writes + 1)).length ≤ 1000) := Lib.hid (Nat.le_trans (List.length_filter_le _ _) (by rw [List.length_take]; have := HLf.out; omega))
              clear hat
              go_upto_region 17 with (fail)
              refine wp_region_held_drew (S := fun w' => w'.cell? ⟨w.heap.size, 4, none⟩ = some (.slice (some ⟨gf, og, none⟩) d.faults.length fc) ∧ Below w.heap.size w w') (by kernel_rfl) (⟨HQ1.out.drew.at 0 rfl 4 rfl, HQ1.out.drew.old⟩) (fun hHeld => ?_)
              refine wpAnyH_take (i := 0) (oi := { dst := some 63, op := Op.fieldAddr 27 (Operand.tmp 9) 4, type := 0, pos := "ref.go:185", after := #[], guard := none }) (v := ?q1v) rfl (by kernel_rfl) (by kernel_rfl) (by kernel_rfl) (fun _ _ _ h => h) (Or.inl ⟨by rfl, ?q1h⟩) hHeld ?q1r
              case q1h => (intro wq hSw; clear hSw; go_simp; try with_reducible rfl)
              try simp only [Act.put, List.setIfInBounds_toArray, List.set_cons_zero, List.set_cons_succ]
              refine wpAnyH_take (i := 2) (oi := { dst := some 65, op := Op.fieldAddr 27 (Operand.tmp 3) 4, type := 0, pos := "ref.go:185", after := #[], guard := none }) (v := ?q2v) rfl (by kernel_rfl) (by kernel_rfl) (by kernel_rfl) (fun _ _ _ h => h) (Or.inl ⟨by rfl, ?q2h⟩) hHeld ?q2r
              case q2h => (intro wq hSw; clear hSw; go_simp; try with_reducible rfl)
              try simp only [Act.put, List.setIfInBounds_toArray, List.set_cons_zero, List.set_cons_succ]
              refine wpAnyH_take (i := 3) (oi := { dst := some 66, op := Op.load 25 (Operand.tmp 65), type := 25, pos := "ref.go:185", after := #[{ on := 2, ground := Ground.data }], guard := none }) (v := ?q3v) rfl (by kernel_rfl) (by kernel_rfl) (by kernel_rfl) (fun _ _ _ h => h) (Or.inl ⟨by rfl, ?q3h⟩) hHeld ?q3r
              case q3h => (intro wq hSw; have q66 := hSw.1; clear hSw; go_simp; try with_reducible rfl)
              try simp only [Act.put, List.setIfInBounds_toArray, List.set_cons_zero, List.set_cons_succ]
              refine wpAnyH_take (i := 4) (oi := { dst := some 67, op := Op.move (Operand.tmp 11), type := 3, pos := "ref.go:185", after := #[], guard := none }) (v := ?q4v) rfl (by kernel_rfl) (by kernel_rfl) (by kernel_rfl) (fun _ _ _ h => h) (Or.inl ⟨by rfl, ?q4h⟩) hHeld ?q4r
              case q4h => (intro wq hSw; clear hSw; go_simp; try with_reducible rfl)
              try simp only [Act.put, List.setIfInBounds_toArray, List.set_cons_zero, List.set_cons_succ]
              refine wpAnyH_take (i := 5) (oi := { dst := some 68, op := Op.indexAddr 25 (Operand.tmp 66) (Operand.tmp 67), type := 0, pos := "ref.go:185", after := #[{ on := 3, ground := Ground.data }, { on := 4, ground := Ground.data }], guard := none }) (v := ?q5v) rfl (by kernel_rfl) (by kernel_rfl) (by kernel_rfl) (fun _ _ _ h => h) (Or.inl ⟨by rfl, ?q5h⟩) hHeld ?q5r
              case q5h => (intro wq hSw; clear hSw; go_simp; try with_reducible rfl)
              try simp only [Act.put, List.setIfInBounds_toArray, List.set_cons_zero, List.set_cons_succ]
              refine wpAnyH_take (i := 6) (oi := { dst := some 69, op := Op.load 29 (Operand.tmp 68), type := 29, pos := "ref.go:185", after := #[{ on := 5, ground := Ground.data }], guard := none }) rfl (by kernel_rfl) (by kernel_rfl) (by kernel_rfl) (fun _ _ _ h => h) (yieldsIf_load_mid (by rfl) 29 (.tmp 68) rfl gf ((og + i * 6)) rfl (fltCells x) _ (fun _ h => HRow.out _ h.2) HUF.out rfl (info_flt)) hHeld ?_
              try simp only [Act.put, List.setIfInBounds_toArray, List.set_cons_zero, List.set_cons_succ]
              refine wpAnyH_ready (rs := [1, 7]) (by kernel_rfl) (by simp) ?_
              refine AllReadyH.cons (o := { dst := some 64, op := Op.load 25 (Operand.tmp 63), type := 25, pos := "ref.go:185", after := #[{ on := 0, ground := Ground.data }], guard := none }) rfl (fun K hK => ?_) (AllReadyH.cons (o := { dst := some 70, op := Op.buildSlice 25 1 #[(0, Operand.tmp 69)], type := 25, pos := "ref.go:185", after := #[{ on := 6, ground := Ground.data }], guard := none }) rfl (fun K hK => ?_) (AllReadyH.nil))
              · have q64 := (HQ1.out).drew.at 4 rfl 4 rfl
                go_simp
                clear q64
                have HS61 : Hid (Hp w [.ob (w.heap.size) 27 (dvCells (.slice pa d.pages.length pc) d (.slice ua d.unread.length uc) (.slice (some ⟨gf, og, none⟩) d.faults.length fc)), .ob B1 27 (dvCells nilS dvNil nilS nilS), .sl ((.slice a1 d.pages.length c1)) 9 1 (d.pages.length) (strRow d.pages), .sl ((.slice a2 d.unread.length c2)) 3 1 (d.unread.length) (intRow d.unread), .ob B2 27 (dvCells (.slice a1 d.pages.length c1) (⟨d.pages, d.writes + 1, d.unread, d.dead, []⟩ : Dv) (.slice a2 d.unread.length c2) (.slice af ((d.faults.take i).filter fun x => !decide (x.at_ = d.writes + 1)).length cf)), .sl v1 29 6 (((d.faults.take i).filter fun x => decide (x.at_ = d.writes + 1)).length) (fltRow ((d.faults.take i).filter fun x => decide (x.at_ = d.writes + 1))), .sl ((.slice af ((d.faults.take i).filter fun x => !decide (x.at_ = d.writes + 1)).length cf)) 29 6 (((d.faults.take i).filter fun x => !decide (x.at_ = d.writes + 1)).length) (fltRow ((d.faults.take i).filter fun x => !decide (x.at_ = d.writes + 1)))] (w31.drew)) := (HQ1.out).drew
                refine hK.out _ _ (⟨HS61.out.at 0 rfl 4 rfl, HS61.out.old⟩) (fun hHeld => ?_)
                clear hK K
                generalize w31.drew = w61 at *
                try simp only [Act.put, List.setIfInBounds_toArray, List.set_cons_zero, List.set_cons_succ]
                refine wpAnyH_ready (rs := [7]) (by kernel_rfl) (by simp) ?_
                refine AllReadyH.cons (o := { dst := some 70, op := Op.buildSlice 25 1 #[(0, Operand.tmp 69)], type := 25, pos := "ref.go:185", after := #[{ on := 6, ground := Ground.data }], guard := none }) rfl (fun K hK => ?_) (AllReadyH.nil)
                rw [if_pos (by rfl)]
                refine wp_build_obs rfl elem_flt HUX.out [fltCells x] (List.forall_mem_cons.2 ⟨rfl, (fun _ h => absurd h List.not_mem_nil)⟩) (Nat.succ_pos _) (by simp only [List.length_cons, List.length_nil]; omega) rfl (by simp only [List.map_toArray, List.map_cons, List.map_nil, List.zipIdx_cons, List.zipIdx_nil]; exact rfl) ?_
                have HS62 : Hid (Hp w [.ob (w.heap.size) 27 (dvCells (.slice pa d.pages.length pc) d (.slice ua d.unread.length uc) (.slice (some ⟨gf, og, none⟩) d.faults.length fc)), .ob B1 27 (dvCells nilS dvNil nilS nilS), .sl ((.slice a1 d.pages.length c1)) 9 1 (d.pages.length) (strRow d.pages), .sl ((.slice a2 d.unread.length c2)) 3 1 (d.unread.length) (intRow d.unread), .ob B2 27 (dvCells (.slice a1 d.pages.length c1) (⟨d.pages, d.writes + 1, d.unread, d.dead, []⟩ : Dv) (.slice a2 d.unread.length c2) (.slice af ((d.faults.take i).filter fun x => !decide (x.at_ = d.writes + 1)).length cf)), .sl v1 29 6 (((d.faults.take i).filter fun x => decide (x.at_ = d.writes + 1)).length) (fltRow ((d.faults.take i).filter fun x => decide (x.at_ = d.writes + 1))), .sl ((.slice af ((d.faults.take i).filter fun x => !decide (x.at_ = d.writes + 1)).length cf)) 29 6 (((d.faults.take i).filter fun x => !decide (x.at_ = d.writes + 1)).length) (fltRow ((d.faults.take i).filter fun x => !decide (x.at_ = d.writes + 1))), .ob (w61.heap.size) 29 (([fltCells x] : List (List Value)).flatMap id)] (w61.alloc (.cells (([fltCells x] : List (List Value)).flatMap id).toArray 29))) := (HS61.out).put 29 (([fltCells x] : List (List Value)).flatMap id)
                refine hK.out _ _ (⟨HS62.out.at 0 rfl 4 rfl, HS62.out.old⟩) (fun hHeld => ?_)
                clear hK K
                generalize (w61.alloc (.cells (([fltCells x] : List (List Value)).flatMap id).toArray 29)) = w62 at *
                generalize w61.heap.size = B4 at *
                try simp only [Act.put, List.setIfInBounds_toArray, List.set_cons_zero, List.set_cons_succ]
                refine wpAnyH_ready (rs := [8]) (by kernel_rfl) (by simp) ?_
                refine AllReadyH.cons (o := { dst := some 71, op := Op.call { callee := Callee.builtin Builtin.append, args := #[Operand.tmp 64, Operand.tmp 70], argTypes := #[25, 25] }, type := 25, pos := "ref.go:185", after := #[{ on := 1, ground := Ground.data }, { on := 7, ground := Ground.data }], guard := none }) rfl (fun K hK => ?_) (AllReadyH.nil)
                rw [if_pos (by rfl)]
                refine wp_append_hp (HS62.out) (.tmp 64) (.tmp 70) 25 rfl 6 rfl 7 rfl HUX.out elem_flt 1 1 rfl rfl rfl (one_flt x) (by have := HNl.out; omega) ?_
                intro v63 w63 hs hnil
                have HS64 : Hid (Hp w [.ob (w.heap.size) 27 (dvCells (.slice pa d.pages.length pc) d (.slice ua d.unread.length uc) (.slice (some ⟨gf, og, none⟩) d.faults.length fc)), .ob B1 27 (dvCells nilS dvNil nilS nilS), .sl ((.slice a1 d.pages.length c1)) 9 1 (d.pages.length) (strRow d.pages), .sl ((.slice a2 d.unread.length c2)) 3 1 (d.unread.length) (intRow d.unread), .ob B2 27 (dvCells (.slice a1 d.pages.length c1) (⟨d.pages, d.writes + 1, d.unread, d.dead, []⟩ : Dv) (.slice a2 d.unread.length c2) (.slice af ((d.faults.take i).filter fun x => !decide (x.at_ = d.writes + 1)).length cf)), .sl v1 29 6 (((d.faults.take i).filter fun x => decide (x.at_ = d.writes + 1)).length) (fltRow ((d.faults.take i).filter fun x => decide (x.at_ = d.writes + 1))), .sl v63 29 6 (((d.faults.take i).filter fun x => !decide (x.at_ = d.writes + 1)).length + 1) ((fltRow ((d.faults.take i).filter fun x => !decide (x.at_ = d.writes + 1))) ++ (([fltCells x] : List (List Value)).flatMap id)), .ob B4 29 (([fltCells x] : List (List Value)).flatMap id)] w63) := hs
                refine hK.out _ _ (⟨HS64.out.at 0 rfl 4 rfl, HS64.out.old⟩) (fun hHeld => ?_)
                clear hK K hs
                try simp only [Act.put, List.setIfInBounds_toArray, List.set_cons_zero, List.set_cons_succ]
                refine wpAnyH_take (i := 9) (oi := { dst := some 72, op := Op.fieldAddr 27 (Operand.tmp 9) 4, type := 0, pos := "ref.go:185", after := #[{ on := 0, ground := Ground.phase }, { on := 1, ground := Ground.phase }, { on := 2, ground := Ground.phase }, { on := 3, ground := Ground.phase }, { on := 4, ground := Ground.phase }, { on := 5, ground := Ground.phase }, { on := 6, ground := Ground.phase }, { on := 7, ground := Ground.phase }, { on := 8, ground := Ground.phase }], guard := none }) (v := ?q7v) rfl (by kernel_rfl) (by kernel_rfl) (by kernel_rfl) (fun _ _ _ h => h) (Or.inl ⟨by rfl, ?q7h⟩) hHeld ?q7r
                case q7h => (intro wq hSw; clear hSw; go_simp; try with_reducible rfl)
                try simp only [Act.put, List.setIfInBounds_toArray, List.set_cons_zero, List.set_cons_succ]
                refine wpAnyH_ready (rs := [10]) (by kernel_rfl) (by simp) ?_
                refine AllReadyH.cons (o := { dst := none, op := Op.store 25 (Operand.tmp 72) (Operand.tmp 71), type := 0, pos := "ref.go:185", after := #[{ on := 9, ground := Ground.data }, { on := 8, ground := Ground.data }, { on := 8, ground := Ground.chain }, { on := 0, ground := Ground.phase }, { on := 1, ground := Ground.phase }, { on := 2, ground := Ground.phase }, { on := 3, ground := Ground.phase }, { on := 4, ground := Ground.phase }, { on := 5, ground := Ground.phase }, { on := 6, ground := Ground.phase }, { on := 7, ground := Ground.phase }, { on := 8, ground := Ground.phase }], guard := none }) rfl (fun K hK => ?_) (AllReadyH.nil)
                obtain ⟨al5, cl5, rfl⟩ := own_slice (HS64.out.own 6 rfl)
                have q72 := HS64.out.at 4 rfl 4 rfl
                have f72 := HS64.out.frozen 4 rfl 4
                go_simp
                clear q72 f72
                have HS65 : Hid (Hp w [.ob (w.heap.size) 27 (dvCells (.slice pa d.pages.length pc) d (.slice ua d.unread.length uc) (.slice (some ⟨gf, og, none⟩) d.faults.length fc)), .ob B1 27 (dvCells nilS dvNil nilS nilS), .sl ((.slice a1 d.pages.length c1)) 9 1 (d.pages.length) (strRow d.pages), .sl ((.slice a2 d.unread.length c2)) 3 1 (d.unread.length) (intRow d.unread), .ob B2 27 (dvCells (.slice a1 d.pages.length c1) (⟨d.pages, d.writes + 1, d.unread, d.dead, []⟩ : Dv) (.slice a2 d.unread.length c2) (.slice al5 (((d.faults.take i).filter fun x => !decide (x.at_ = d.writes + 1)).length + 1) cl5)), .sl v1 29 6 (((d.faults.take i).filter fun x => decide (x.at_ = d.writes + 1)).length) (fltRow ((d.faults.take i).filter fun x => decide (x.at_ = d.writes + 1))), .sl ((.slice al5 (((d.faults.take i).filter fun x => !decide (x.at_ = d.writes + 1)).length + 1) cl5)) 29 6 (((d.faults.take i).filter fun x => !decide (x.at_ = d.writes + 1)).length + 1) ((fltRow ((d.faults.take i).filter fun x => !decide (x.at_ = d.writes + 1))) ++ (([fltCells x] : List (List Value)).flatMap id)), .ob B4 29 (([fltCells x] : List (List Value)).flatMap id)] (w63.setCell ⟨B2, 4, none⟩ (.slice al5 (((d.faults.take i).filter fun x => !decide (x.at_ = d.writes + 1)).length + 1) cl5))) := (HS64.out).set 4 rfl 4 (.slice al5 (((d.faults.take i).filter fun x => !decide (x.at_ = d.writes + 1)).length + 1) cl5)
                refine hK.out _ _ (⟨HS65.out.at 0 rfl 4 rfl, HS65.out.old⟩) (fun hHeld => ?_)
                clear hK K
                generalize (w63.setCell ⟨B2, 4, none⟩ (.slice al5 (((d.faults.take i).filter fun x => !decide (x.at_ = d.writes + 1)).length + 1) cl5)) = w64 at *
                try simp only [Act.put, List.setIfInBounds_toArray, List.set_cons_zero, List.set_cons_succ]
                refine wpAnyH_done (by kernel_rfl) ?_ _
                clear hHeld
                have HS66 : Hid (Hp w [.ob (w.heap.size) 27 (dvCells (.slice pa d.pages.length pc) d (.slice ua d.unread.length uc) (.slice (some ⟨gf, og, none⟩) d.faults.length fc)), .ob B1 27 (dvCells nilS dvNil nilS nilS), .sl ((.slice a1 d.pages.length c1)) 9 1 (d.pages.length) (strRow d.pages), .sl ((.slice a2 d.unread.length c2)) 3 1 (d.unread.length) (intRow d.unread), .ob B2 27 (dvCells (.slice a1 d.pages.length c1) (⟨d.pages, d.writes + 1, d.unread, d.dead, []⟩ : Dv) (.slice a2 d.unread.length c2) (.slice al5 (((d.faults.take i).filter fun x => !decide (x.at_ = d.writes + 1)).length + 1) cl5)), .sl v1 29 6 (((d.faults.take i).filter fun x => decide (x.at_ = d.writes + 1)).length) (fltRow ((d.faults.take i).filter fun x => decide (x.at_ = d.writes + 1))), .sl ((.slice al5 (((d.faults.take i).filter fun x => !decide (x.at_ = d.writes + 1)).length + 1) cl5)) 29 6 (((d.faults.take i).filter fun x => !decide (x.at_ = d.writes + 1)).length + 1) ((fltRow ((d.faults.take i).filter fun x => !decide (x.at_ = d.writes + 1))) ++ (([fltCells x] : List (List Value)).flatMap id))] w64) := HS65.out.pull [0, 1, 2, 3, 4, 5, 6] rfl (pull_nd HS65.out.nd [0, 1, 2, 3, 4, 5, 6] rfl (by decide))
                clear HS65
                have eN : ((d.faults.take (i + 1)).filter fun x => decide (x.at_ = d.writes + 1)) = ((d.faults.take i).filter fun x => decide (x.at_ = d.writes + 1)) := by rw [HTk.out, List.filter_append, List.filter_cons_of_neg (by simpa using HAt.out)]; simp
                have eL : ((d.faults.take (i + 1)).filter fun x => !decide (x.at_ = d.writes + 1)) = ((d.faults.take i).filter fun x => !decide (x.at_ = d.writes + 1)) ++ [x] := by rw [HTk.out, List.filter_append, List.filter_cons_of_pos (by simpa using HAt.out)]; rfl
                go_wp2_with fail
                go_roundw
                case rel =>
                  refine ⟨v1, al5, cl5, i + 1, rfl, by go_num, HLt.out, ?_⟩
                  rw [eN, eL, List.length_append, fltRow_snoc]
                  exact HS66.out
                case measure => simp [intOf]; try (have := HLt.out; omega)
              · rw [if_pos (by rfl)]
                refine wp_build_obs rfl elem_flt HUX.out [fltCells x] (List.forall_mem_cons.2 ⟨rfl, (fun _ h => absurd h List.not_mem_nil)⟩) (Nat.succ_pos _) (by simp only [List.length_cons, List.length_nil]; omega) rfl (by simp only [List.map_toArray, List.map_cons, List.map_nil, List.zipIdx_cons, List.zipIdx_nil]; exact rfl) ?_
                have HS61 : Hid (Hp w [.ob (w.heap.size) 27 (dvCells (.slice pa d.pages.length pc) d (.slice ua d.unread.length uc) (.slice (some ⟨gf, og, none⟩) d.faults.length fc)), .ob B1 27 (dvCells nilS dvNil nilS nilS), .sl ((.slice a1 d.pages.length c1)) 9 1 (d.pages.length) (strRow d.pages), .sl ((.slice a2 d.unread.length c2)) 3 1 (d.unread.length) (intRow d.unread), .ob B2 27 (dvCells (.slice a1 d.pages.length c1) (⟨d.pages, d.writes + 1, d.unread, d.dead, []⟩ : Dv) (.slice a2 d.unread.length c2) (.slice af ((d.faults.take i).filter fun x => !decide (x.at_ = d.writes + 1)).length cf)), .sl v1 29 6 (((d.faults.take i).filter fun x => decide (x.at_ = d.writes + 1)).length) (fltRow ((d.faults.take i).filter fun x => decide (x.at_ = d.writes + 1))), .sl ((.slice af ((d.faults.take i).filter fun x => !decide (x.at_ = d.writes + 1)).length cf)) 29 6 (((d.faults.take i).filter fun x => !decide (x.at_ = d.writes + 1)).length) (fltRow ((d.faults.take i).filter fun x => !decide (x.at_ = d.writes + 1))), .ob (w31.drew.heap.size) 29 (([fltCells x] : List (List Value)).flatMap id)] (w31.drew.alloc (.cells (([fltCells x] : List (List Value)).flatMap id).toArray 29))) := ((HQ1.out).drew).put 29 (([fltCells x] : List (List Value)).flatMap id)
                refine hK.out _ _ (⟨HS61.out.at 0 rfl 4 rfl, HS61.out.old⟩) (fun hHeld => ?_)
                clear hK K
                generalize (w31.drew.alloc (.cells (([fltCells x] : List (List Value)).flatMap id).toArray 29)) = w61 at *
                generalize w31.drew.heap.size = B4 at *
                try simp only [Act.put, List.setIfInBounds_toArray, List.set_cons_zero, List.set_cons_succ]
                refine wpAnyH_ready (rs := [1]) (by kernel_rfl) (by simp) ?_
                refine AllReadyH.cons (o := { dst := some 64, op := Op.load 25 (Operand.tmp 63), type := 25, pos := "ref.go:185", after := #[{ on := 0, ground := Ground.data }], guard := none }) rfl (fun K hK => ?_) (AllReadyH.nil)
                have q64 := HS61.out.at 4 rfl 4 rfl
                go_simp
                clear q64
                have HS62 : Hid (Hp w [.ob (w.heap.size) 27 (dvCells (.slice pa d.pages.length pc) d (.slice ua d.unread.length uc) (.slice (some ⟨gf, og, none⟩) d.faults.length fc)), .ob B1 27 (dvCells nilS dvNil nilS nilS), .sl ((.slice a1 d.pages.length c1)) 9 1 (d.pages.length) (strRow d.pages), .sl ((.slice a2 d.unread.length c2)) 3 1 (d.unread.length) (intRow d.unread), .ob B2 27 (dvCells (.slice a1 d.pages.length c1) (⟨d.pages, d.writes + 1, d.unread, d.dead, []⟩ : Dv) (.slice a2 d.unread.length c2) (.slice af ((d.faults.take i).filter fun x => !decide (x.at_ = d.writes + 1)).length cf)), .sl v1 29 6 (((d.faults.take i).filter fun x => decide (x.at_ = d.writes + 1)).length) (fltRow ((d.faults.take i).filter fun x => decide (x.at_ = d.writes + 1))), .sl ((.slice af ((d.faults.take i).filter fun x => !decide (x.at_ = d.writes + 1)).length cf)) 29 6 (((d.faults.take i).filter fun x => !decide (x.at_ = d.writes + 1)).length) (fltRow ((d.faults.take i).filter fun x => !decide (x.at_ = d.writes + 1))), .ob B4 29 (([fltCells x] : List (List Value)).flatMap id)] w61) := HS61.out
                refine hK.out _ _ (⟨HS62.out.at 0 rfl 4 rfl, HS62.out.old⟩) (fun hHeld => ?_)
                clear hK K
                try simp only [Act.put, List.setIfInBounds_toArray, List.set_cons_zero, List.set_cons_succ]
                refine wpAnyH_ready (rs := [8]) (by kernel_rfl) (by simp) ?_
                refine AllReadyH.cons (o := { dst := some 71, op := Op.call { callee := Callee.builtin Builtin.append, args := #[Operand.tmp 64, Operand.tmp 70], argTypes := #[25, 25] }, type := 25, pos := "ref.go:185", after := #[{ on := 1, ground := Ground.data }, { on := 7, ground := Ground.data }], guard := none }) rfl (fun K hK => ?_) (AllReadyH.nil)
                rw [if_pos (by rfl)]
                refine wp_append_hp (HS62.out) (.tmp 64) (.tmp 70) 25 rfl 6 rfl 7 rfl HUX.out elem_flt 1 1 rfl rfl rfl (one_flt x) (by have := HNl.out; omega) ?_
                intro v62 w62 hs hnil
                have HS64 : Hid (Hp w [.ob (w.heap.size) 27 (dvCells (.slice pa d.pages.length pc) d (.slice ua d.unread.length uc) (.slice (some ⟨gf, og, none⟩) d.faults.length fc)), .ob B1 27 (dvCells nilS dvNil nilS nilS), .sl ((.slice a1 d.pages.length c1)) 9 1 (d.pages.length) (strRow d.pages), .sl ((.slice a2 d.unread.length c2)) 3 1 (d.unread.length) (intRow d.unread), .ob B2 27 (dvCells (.slice a1 d.pages.length c1) (⟨d.pages, d.writes + 1, d.unread, d.dead, []⟩ : Dv) (.slice a2 d.unread.length c2) (.slice af ((d.faults.take i).filter fun x => !decide (x.at_ = d.writes + 1)).length cf)), .sl v1 29 6 (((d.faults.take i).filter fun x => decide (x.at_ = d.writes + 1)).length) (fltRow ((d.faults.take i).filter fun x => decide (x.at_ = d.writes + 1))), .sl v62 29 6 (((d.faults.take i).filter fun x => !decide (x.at_ = d.writes + 1)).length + 1) ((fltRow ((d.faults.take i).filter fun x => !decide (x.at_ = d.writes + 1))) ++ (([fltCells x] : List (List Value)).flatMap id)), .ob B4 29 (([fltCells x] : List (List Value)).flatMap id)] w62) := hs
                refine hK.out _ _ (⟨HS64.out.at 0 rfl 4 rfl, HS64.out.old⟩) (fun hHeld => ?_)
                clear hK K hs
                try simp only [Act.put, List.setIfInBounds_toArray, List.set_cons_zero, List.set_cons_succ]
                refine wpAnyH_take (i := 9) (oi := { dst := some 72, op := Op.fieldAddr 27 (Operand.tmp 9) 4, type := 0, pos := "ref.go:185", after := #[{ on := 0, ground := Ground.phase }, { on := 1, ground := Ground.phase }, { on := 2, ground := Ground.phase }, { on := 3, ground := Ground.phase }, { on := 4, ground := Ground.phase }, { on := 5, ground := Ground.phase }, { on := 6, ground := Ground.phase }, { on := 7, ground := Ground.phase }, { on := 8, ground := Ground.phase }], guard := none }) (v := ?q8v) rfl (by kernel_rfl) (by kernel_rfl) (by kernel_rfl) (fun _ _ _ h => h) (Or.inl ⟨by rfl, ?q8h⟩) hHeld ?q8r
                case q8h => (intro wq hSw; clear hSw; go_simp; try with_reducible rfl)
                try simp only [Act.put, List.setIfInBounds_toArray, List.set_cons_zero, List.set_cons_succ]
                refine wpAnyH_ready (rs := [10]) (by kernel_rfl) (by simp) ?_
                refine AllReadyH.cons (o := { dst := none, op := Op.store 25 (Operand.tmp 72) (Operand.tmp 71), type := 0, pos := "ref.go:185", after := #[{ on := 9, ground := Ground.data }, { on := 8, ground := Ground.data }, { on := 8, ground := Ground.chain }, { on := 0, ground := Ground.phase }, { on := 1, ground := Ground.phase }, { on := 2, ground := Ground.phase }, { on := 3, ground := Ground.phase }, { on := 4, ground := Ground.phase }, { on := 5, ground := Ground.phase }, { on := 6, ground := Ground.phase }, { on := 7, ground := Ground.phase }, { on := 8, ground := Ground.phase }], guard := none }) rfl (fun K hK => ?_) (AllReadyH.nil)
                obtain ⟨al5, cl5, rfl⟩ := own_slice (HS64.out.own 6 rfl)
                have q72 := HS64.out.at 4 rfl 4 rfl
                have f72 := HS64.out.frozen 4 rfl 4
                go_simp
                clear q72 f72
                have HS65 : Hid (Hp w [.ob (w.heap.size) 27 (dvCells (.slice pa d.pages.length pc) d (.slice ua d.unread.length uc) (.slice (some ⟨gf, og, none⟩) d.faults.length fc)), .ob B1 27 (dvCells nilS dvNil nilS nilS), .sl ((.slice a1 d.pages.length c1)) 9 1 (d.pages.length) (strRow d.pages), .sl ((.slice a2 d.unread.length c2)) 3 1 (d.unread.length) (intRow d.unread), .ob B2 27 (dvCells (.slice a1 d.pages.length c1) (⟨d.pages, d.writes + 1, d.unread, d.dead, []⟩ : Dv) (.slice a2 d.unread.length c2) (.slice al5 (((d.faults.take i).filter fun x => !decide (x.at_ = d.writes + 1)).length + 1) cl5)), .sl v1 29 6 (((d.faults.take i).filter fun x => decide (x.at_ = d.writes + 1)).length) (fltRow ((d.faults.take i).filter fun x => decide (x.at_ = d.writes + 1))), .sl ((.slice al5 (((d.faults.take i).filter fun x => !decide (x.at_ = d.writes + 1)).length + 1) cl5)) 29 6 (((d.faults.take i).filter fun x => !decide (x.at_ = d.writes + 1)).length + 1) ((fltRow ((d.faults.take i).filter fun x => !decide (x.at_ = d.writes + 1))) ++ (([fltCells x] : List (List Value)).flatMap id)), .ob B4 29 (([fltCells x] : List (List Value)).flatMap id)] (w62.setCell ⟨B2, 4, none⟩ (.slice al5 (((d.faults.take i).filter fun x => !decide (x.at_ = d.writes + 1)).length + 1) cl5))) := (HS64.out).set 4 rfl 4 (.slice al5 (((d.faults.take i).filter fun x => !decide (x.at_ = d.writes + 1)).length + 1) cl5)
                refine hK.out _ _ (⟨HS65.out.at 0 rfl 4 rfl, HS65.out.old⟩) (fun hHeld => ?_)
                clear hK K
                generalize (w62.setCell ⟨B2, 4, none⟩ (.slice al5 (((d.faults.take i).filter fun x => !decide (x.at_ = d.writes + 1)).length + 1) cl5)) = w63 at *
                try simp only [Act.put, List.setIfInBounds_toArray, List.set_cons_zero, List.set_cons_succ]
                refine wpAnyH_done (by kernel_rfl) ?_ _
                clear hHeld
                have HS66 : Hid (Hp w [.ob (w.heap.size) 27 (dvCells (.slice pa d.pages.length pc) d (.slice ua d.unread.length uc) (.slice (some ⟨gf, og, none⟩) d.faults.length fc)), .ob B1 27 (dvCells nilS dvNil nilS nilS), .sl ((.slice a1 d.pages.length c1)) 9 1 (d.pages.length) (strRow d.pages), .sl ((.slice a2 d.unread.length c2)) 3 1 (d.unread.length) (intRow d.unread), .ob B2 27 (dvCells (.slice a1 d.pages.length c1) (⟨d.pages, d.writes + 1, d.unread, d.dead, []⟩ : Dv) (.slice a2 d.unread.length c2) (.slice al5 (((d.faults.take i).filter fun x => !decide (x.at_ = d.writes + 1)).length + 1) cl5)), .sl v1 29 6 (((d.faults.take i).filter fun x => decide (x.at_ = d.writes + 1)).length) (fltRow ((d.faults.take i).filter fun x => decide (x.at_ = d.writes + 1))), .sl ((.slice al5 (((d.faults.take i).filter fun x => !decide (x.at_ = d.writes + 1)).length + 1) cl5)) 29 6 (((d.faults.take i).filter fun x => !decide (x.at_ = d.writes + 1)).length + 1) ((fltRow ((d.faults.take i).filter fun x => !decide (x.at_ = d.writes + 1))) ++ (([fltCells x] : List (List Value)).flatMap id))] w63) := HS65.out.pull [0, 1, 2, 3, 4, 5, 6] rfl (pull_nd HS65.out.nd [0, 1, 2, 3, 4, 5, 6] rfl (by decide))
                clear HS65
                have eN : ((d.faults.take (i + 1)).filter fun x => decide (x.at_ = d.writes + 1)) = ((d.faults.take i).filter fun x => decide (x.at_ = d.writes + 1)) := by rw [HTk.out, List.filter_append, List.filter_cons_of_neg (by simpa using HAt.out)]; simp
                have eL : ((d.faults.take (i + 1)).filter fun x => !decide (x.at_ = d.writes + 1)) = ((d.faults.take i).filter fun x => !decide (x.at_ = d.writes + 1)) ++ [x] := by rw [HTk.out, List.filter_append, List.filter_cons_of_pos (by simpa using HAt.out)]; rfl
                go_wp2_with fail
                go_roundw
                case rel =>
                  refine ⟨v1, al5, cl5, i + 1, rfl, by go_num, HLt.out, ?_⟩
                  rw [eN, eL, List.length_append, fltRow_snoc]
                  exact HS66.out
                case measure => simp [intOf]; try (have := HLt.out; omega)
          · have hii : ¬ (i : Int) < (d.faults.length : Int) := by omega
            have HQ6 : Hid (Hp w [.ob w.heap.size 27 (dvCells (.slice pa d.pages.length pc) d (.slice ua d.unread.length uc) (.slice fa d.faults.length fc)), .ob B1 27 (dvCells nilS dvNil nilS nilS), .sl (.slice a1 d.pages.length c1) 9 1 (⟨d.pages, d.writes + 1, d.unread, d.dead, laterR d⟩ : Dv).pages.length (strRow (⟨d.pages, d.writes + 1, d.unread, d.dead, laterR d⟩ : Dv).pages), .sl (.slice a2 d.unread.length c2) 3 1 (⟨d.pages, d.writes + 1, d.unread, d.dead, laterR d⟩ : Dv).unread.length (intRow (⟨d.pages, d.writes + 1, d.unread, d.dead, laterR d⟩ : Dv).unread), .ob B2 27 (dvCells (.slice a1 d.pages.length c1) (⟨d.pages, d.writes + 1, d.unread, d.dead, laterR d⟩ : Dv) (.slice a2 d.unread.length c2) (.slice af (laterR d).length cf)), .sl v1 29 6 (nowR d).length (fltRow (nowR d)), .sl (.slice af (laterR d).length cf) 29 6 (laterR d).length (fltRow (laterR d))] wr) := by
              have h := HQ.out
              have e : i = d.faults.length := by omega
              rw [e, List.take_length] at h
              exact Lib.hid h
            have HRg : Hid (∀ x ∈ nowR d, (0 ≤ x.target ∧ x.target < (d.pages.length : Int)) ∧ (0 ≤ x.byte ∧ x.byte < 256) ∧ (0 ≤ x.page ∧ x.page < (d.pages.length : Int))) := Lib.hid (fun x hx => flt_ranges (HOk.out.2.2.2.2.2 x (List.mem_filter.1 hx).1))
            have HGn : Hid (∀ x ∈ nowR d, GoodFlt x) := Lib.hid (fun x hx => HGf.out x (List.mem_filter.1 hx).1)
            have HNn : Hid ((nowR d).length ≤ 64) := Lib.hid (Nat.le_trans (List.length_filter_le _ _) HOk.out.2.2.1)
            have HWr : Hid (writeR d k s = ((nowR d).foldl happenR (landR (⟨d.pages, d.writes + 1, d.unread, d.dead, laterR d⟩ : Dv) k s (nowR d)), 0)) := Lib.hid (by unfold writeR; rw [if_neg HX.out, if_neg HY.out, if_neg HZ.out])
            clear HQ hlt hi him
            go_upto_block 2 with fail
            clear c4 hii hi0
            generalize nowR d = nw at *
            generalize laterR d = lt at *
            obtain ⟨a0, c0, rfl⟩ := own_slice (HQ6.out.own 5 rfl)
            go_cut [12] (fun sd wx => ∃ (dn : Bool) (dd : Dv) (au : Option Addr) (cu : Nat), sd = .bool dn ∧ LandEnd (⟨d.pages, d.writes + 1, d.unread, d.dead, lt⟩ : Dv) k s nw dn dd ∧ Hp w [.ob w.heap.size 27 (dvCells (.slice pa d.pages.length pc) d (.slice ua d.unread.length uc) (.slice fa d.faults.length fc)), .ob B1 27 (dvCells nilS dvNil nilS nilS), .sl (.slice a1 d.pages.length c1) 9 1 dd.pages.length (strRow dd.pages), .sl (.slice au dd.unread.length cu) 3 1 dd.unread.length (intRow dd.unread), .ob B2 27 (dvCells (.slice a1 d.pages.length c1) dd (.slice au dd.unread.length cu) (.slice af lt.length cf)), .sl (.slice a0 nw.length c0) 29 6 nw.length (fltRow nw), .sl (.slice af lt.length cf) 29 6 lt.length (fltRow lt)] wx)
            case first =>
              go_wp2_with fail
              go_loopw [12, 13] (fun sn si wx => ∃ (dn : Bool) (dd : Dv) (au : Option Addr) (cu : Nat) (i : Nat), sn = .bool dn ∧ si = .int .i64 i ∧ i ≤ nw.length ∧ LandSt (⟨d.pages, d.writes + 1, d.unread, d.dead, lt⟩ : Dv) k s nw i dn dd ∧ Hp w [.ob w.heap.size 27 (dvCells (.slice pa d.pages.length pc) d (.slice ua d.unread.length uc) (.slice fa d.faults.length fc)), .ob B1 27 (dvCells nilS dvNil nilS nilS), .sl (.slice a1 d.pages.length c1) 9 1 dd.pages.length (strRow dd.pages), .sl (.slice au dd.unread.length cu) 3 1 dd.unread.length (intRow dd.unread), .ob B2 27 (dvCells (.slice a1 d.pages.length c1) dd (.slice au dd.unread.length cu) (.slice af lt.length cf)), .sl (.slice a0 nw.length c0) 29 6 nw.length (fltRow nw), .sl (.slice af lt.length cf) 29 6 lt.length (fltRow lt)] wx) (fun _ si _ => nw.length - (intOf si).toNat)
              case atStart => exact ⟨false, (⟨d.pages, d.writes + 1, d.unread, d.dead, lt⟩ : Dv), _, _, 0, rfl, rfl, Nat.zero_le _, LandSt.start _ _ _ _, HQ6.out⟩
              case round =>
                obtain ⟨dn, dd, au, cu, i, rfl, rfl, hi, hst, hs⟩ := hrel
                clear HQ6
                have HQ := Lib.hid hs
                have HSt := Lib.hid hst
                clear hs hst
                have hi0 : (0 : Int) ≤ (i : Int) := by omega
                have him : (i : Int) ≤ 64 := by have := HNn.out; omega
                by_cases hlt : i < nw.length
                case neg =>
                  have hii : ¬ (i : Int) < (nw.length : Int) := by omega
                  have HEn : Hid (LandEnd (⟨d.pages, d.writes + 1, d.unread, d.dead, lt⟩ : Dv) k s nw dn dd) := Lib.hid (LandSt.last (by omega) HSt.out)
                  clear HSt hlt hi him
                  go_wp2_with fail
                  go_meet
                  exact ⟨dn, dd, au, cu, rfl, HEn.out, HQ.out⟩
                case pos =>
                have hii : (i : Int) < (nw.length : Int) := by omega
                cases dn
                case true =>
                  have HEn : Hid (LandEnd (⟨d.pages, d.writes + 1, d.unread, d.dead, lt⟩ : Dv) k s nw true dd) := Lib.hid (LandSt.done HSt.out)
                  clear HSt hlt hi him
                  go_wp2_with fail
                  go_meet
                  exact ⟨true, dd, au, cu, rfl, HEn.out, HQ.out⟩
                case false =>
                obtain rfl : dd = (⟨d.pages, d.writes + 1, d.unread, d.dead, lt⟩ : Dv) := LandSt.is HSt.out
                have ho := HQ.out.own 5 rfl
                rcases ho.2 with ⟨_, h0⟩ | ⟨gq, cq, curq, hvq, hBq, hgq, hq1, hq2, hq3, hq4⟩
                · omega
                have ea : a0 = some ⟨gq, 0, none⟩ := by injection hvq
                subst ea
                obtain ⟨x, hx⟩ : ∃ x, nw[i] = x := ⟨_, rfl⟩
                have HFl : Hid (∀ t v, (fltCells x)[t]? = some v → (fltRow nw)[i * 6 + t]? = some v) := Lib.hid (fun t v hv => fltRow_at nw i hlt t v (by rw [hx]; exact hv))
                have hxm : x ∈ nw := by rw [← hx]; exact List.getElem_mem hlt
                have HXr := Lib.hid (HRg.out x hxm)
                have HLx := Lib.hid (show nw[i]? = some x by rw [List.getElem?_eq_getElem hlt, hx])
                have HLt := Lib.hid hlt
                clear ho hvq hBq hgq hq1 hq2 hq3 hq4 hxm hx hlt
                have e0 : wr.cell? ⟨gq, i * 6, none⟩ = some (.int .i64 x.kind) := own_range (HQ.out.own 5 rfl) rfl (i * 6) (fltCells x) HFl.out 0 _ rfl
                by_cases k1 : x.kind = 1
                · have HN : Hid (LandSt (⟨d.pages, d.writes + 1, d.unread, d.dead, lt⟩ : Dv) k s nw (i + 1) true (⟨d.pages, d.writes + 1, d.unread, d.dead, lt⟩ : Dv)) := Lib.hid (LandSt.lost HLx.out k1 HSt.out)
                  have k1b : (x.kind == 1) = true := by rw [k1]; rfl
                  clear HSt k1
                  go_wp2_with fail
                  go_roundw
                  case rel => exact ⟨true, (⟨d.pages, d.writes + 1, d.unread, d.dead, lt⟩ : Dv), au, cu, i + 1, rfl, by go_num, HLt.out, HN.out, HQ.out⟩
                  case measure => simp [intOf]; have := HLt.out; omega
                have k1b : (x.kind == 1) = false := by rw [beq_eq_false_iff_ne]; exact k1
                by_cases k2 : x.kind = 2
                · obtain ⟨kt, hkt⟩ := Int.eq_ofNat_of_zero_le HXr.out.1.1
                  have HKt : Hid (kt < d.pages.length) := Lib.hid (by have := HXr.out; omega)
                  have HF2 : Hid (∀ t v, (fltCells ⟨x.kind, x.at_, x.page, (kt : Int), x.byte, x.mask⟩)[t]? = some v → (fltRow nw)[i * 6 + t]? = some v) := Lib.hid (by have := HFl.out; rw [show x = ⟨x.kind, x.at_, x.page, (kt : Int), x.byte, x.mask⟩ from by rw [← hkt]] at this; exact this)
                  have HN : Hid (LandSt (⟨d.pages, d.writes + 1, d.unread, d.dead, lt⟩ : Dv) k s nw (i + 1) true (placeR (⟨d.pages, d.writes + 1, d.unread, d.dead, lt⟩ : Dv) (kt : Int) s 256)) := Lib.hid (by have := LandSt.astray HLx.out k2 HSt.out; rw [hkt] at this; exact this)
                  have k2b : (x.kind == 2) = true := by rw [k2]; rfl
                  clear k2 HSt hkt HFl k1
                  go_upto_region 26 with (fail)
                  clear e0
                  refine wp_region_held_drew (S := fun w' => w'.rangeAt gq (i * 6) (fltCells ⟨x.kind, x.at_, x.page, (kt : Int), x.byte, x.mask⟩)) (by kernel_rfl) (own_range ((HQ.out).drew.own 5 rfl) rfl (i * 6) (fltCells ⟨x.kind, x.at_, x.page, (kt : Int), x.byte, x.mask⟩) HF2.out) (fun hHeld => ?_)
                  refine wpAnyH_take (i := 1) (oi := { dst := some 93, op := Op.move (Operand.tmp 10), type := 25, pos := "ref.go:194", after := #[], guard := none }) (v := ?q9v) rfl (by kernel_rfl) (by kernel_rfl) (by kernel_rfl) (fun _ _ _ h => h) (Or.inl ⟨by rfl, ?q9h⟩) hHeld ?q9r
                  case q9h => (intro wq hSw; clear hSw; go_simp; try with_reducible rfl)
                  try simp only [Act.put, List.setIfInBounds_toArray, List.set_cons_zero, List.set_cons_succ]
                  refine wpAnyH_take (i := 2) (oi := { dst := some 94, op := Op.move (Operand.tmp 13), type := 3, pos := "ref.go:194", after := #[], guard := none }) (v := ?q10v) rfl (by kernel_rfl) (by kernel_rfl) (by kernel_rfl) (fun _ _ _ h => h) (Or.inl ⟨by rfl, ?q10h⟩) hHeld ?q10r
                  case q10h => (intro wq hSw; clear hSw; go_simp; try with_reducible rfl)
                  try simp only [Act.put, List.setIfInBounds_toArray, List.set_cons_zero, List.set_cons_succ]
                  refine wpAnyH_take (i := 3) (oi := { dst := some 95, op := Op.indexAddr 25 (Operand.tmp 93) (Operand.tmp 94), type := 0, pos := "ref.go:194", after := #[{ on := 1, ground := Ground.data }, { on := 2, ground := Ground.data }], guard := none }) (v := ?q11v) rfl (by kernel_rfl) (by kernel_rfl) (by kernel_rfl) (fun _ _ _ h => h) (Or.inl ⟨by rfl, ?q11h⟩) hHeld ?q11r
                  case q11h => (intro wq hSw; clear hSw; go_simp; try with_reducible rfl)
                  try simp only [Act.put, List.setIfInBounds_toArray, List.set_cons_zero, List.set_cons_succ]
                  refine wpAnyH_take (i := 4) (oi := { dst := some 96, op := Op.fieldAddr 29 (Operand.tmp 95) 3, type := 0, pos := "ref.go:194", after := #[{ on := 3, ground := Ground.data }], guard := none }) (v := ?q12v) rfl (by kernel_rfl) (by kernel_rfl) (by kernel_rfl) (fun _ _ _ h => h) (Or.inl ⟨by rfl, ?q12h⟩) hHeld ?q12r
                  case q12h => (intro wq hSw; clear hSw; go_simp; try with_reducible rfl)
                  try simp only [Act.put, List.setIfInBounds_toArray, List.set_cons_zero, List.set_cons_succ]
                  refine wpAnyH_take (i := 5) (oi := { dst := some 97, op := Op.load 3 (Operand.tmp 96), type := 3, pos := "ref.go:194", after := #[{ on := 4, ground := Ground.data }], guard := none }) (v := .int .i64 (kt : Int)) rfl (by kernel_rfl) (by kernel_rfl) (by kernel_rfl) (fun _ _ _ h => h) (Or.inl ⟨by rfl, ?q13h⟩) hHeld ?q13r
                  case q13h => (intro wq hSw; have qL := hSw 3 _ rfl; clear hSw; go_simp; try with_reducible rfl)
                  try simp only [Act.put, List.setIfInBounds_toArray, List.set_cons_zero, List.set_cons_succ]
                  refine wpAnyH_take (i := 6) (oi := { dst := some 98, op := Op.move (Operand.tmp 2), type := 9, pos := "ref.go:194", after := #[], guard := none }) (v := ?q14v) rfl (by kernel_rfl) (by kernel_rfl) (by kernel_rfl) (fun _ _ _ h => h) (Or.inl ⟨by rfl, ?q14h⟩) hHeld ?q14r
                  case q14h => (intro wq hSw; clear hSw; go_simp; try with_reducible rfl)
                  try simp only [Act.put, List.setIfInBounds_toArray, List.set_cons_zero, List.set_cons_succ]
                  refine wpAnyH_ready (rs := [0]) (by kernel_rfl) (by simp) ?_
                  refine AllReadyH.cons (o := { dst := some 92, op := Op.load 27 (Operand.tmp 9), type := 27, pos := "ref.go:194", after := #[], guard := none }) rfl (fun K hK => ?_) (AllReadyH.nil)
                  rw [if_pos (by rfl)]
                  refine wp_load_ob 27 (.tmp 9) B2 (dvCells (.slice a1 d.pages.length c1) (⟨d.pages, d.writes + 1, d.unread, d.dead, lt⟩ : Dv) (.slice au (⟨d.pages, d.writes + 1, d.unread, d.dead, lt⟩ : Dv).unread.length cu) (.slice af lt.length cf)) 27 HUD.out rfl rfl (((HQ.out).drew).get 4 rfl) rfl (info_dv) ?_
                  have HS81 : Hid (Hp w [.ob (w.heap.size) 27 (dvCells (.slice pa d.pages.length pc) d (.slice ua d.unread.length uc) (.slice fa d.faults.length fc)), .ob B1 27 (dvCells nilS dvNil nilS nilS), .sl ((.slice a1 d.pages.length c1)) 9 1 ((⟨d.pages, d.writes + 1, d.unread, d.dead, lt⟩ : Dv).pages.length) (strRow (⟨d.pages, d.writes + 1, d.unread, d.dead, lt⟩ : Dv).pages), .sl ((.slice au (⟨d.pages, d.writes + 1, d.unread, d.dead, lt⟩ : Dv).unread.length cu)) 3 1 ((⟨d.pages, d.writes + 1, d.unread, d.dead, lt⟩ : Dv).unread.length) (intRow (⟨d.pages, d.writes + 1, d.unread, d.dead, lt⟩ : Dv).unread), .ob B2 27 (dvCells (.slice a1 d.pages.length c1) (⟨d.pages, d.writes + 1, d.unread, d.dead, lt⟩ : Dv) (.slice au (⟨d.pages, d.writes + 1, d.unread, d.dead, lt⟩ : Dv).unread.length cu) (.slice af lt.length cf)), .sl ((.slice (some ⟨gq, 0, none⟩) nw.length c0)) 29 6 (nw.length) (fltRow nw), .sl ((.slice af lt.length cf)) 29 6 (lt.length) (fltRow lt)] (wr.drew)) := (HQ.out).drew
                  refine hK.out _ _ (own_range (HS81.out.own 5 rfl) rfl (i * 6) (fltCells ⟨x.kind, x.at_, x.page, (kt : Int), x.byte, x.mask⟩) HF2.out) (fun hHeld => ?_)
                  clear hK K
                  generalize wr.drew = w81 at *
                  try simp only [Act.put, List.setIfInBounds_toArray, List.set_cons_zero, List.set_cons_succ]
                  refine wpAnyH_ready (rs := [7]) (by kernel_rfl) (by simp) ?_
                  refine AllReadyH.cons (o := { dst := some 99, op := Op.call { callee := Callee.value (Operand.func 48), args := #[Operand.tmp 92, Operand.tmp 97, Operand.tmp 98, Operand.const (Value.int IntKind.i64 256)], argTypes := #[27, 3, 9, 3] }, type := 27, pos := "ref.go:194", after := #[{ on := 0, ground := Ground.data }, { on := 5, ground := Ground.data }, { on := 6, ground := Ground.data }], guard := none }) rfl (fun K hK => ?_) (AllReadyH.nil)
                  have h7 : Hp w [.sl ((.slice a1 d.pages.length c1)) 9 1 ((⟨d.pages, d.writes + 1, d.unread, d.dead, lt⟩ : Dv).pages.length) (strRow (⟨d.pages, d.writes + 1, d.unread, d.dead, lt⟩ : Dv).pages), .sl ((.slice au (⟨d.pages, d.writes + 1, d.unread, d.dead, lt⟩ : Dv).unread.length cu)) 3 1 ((⟨d.pages, d.writes + 1, d.unread, d.dead, lt⟩ : Dv).unread.length) (intRow (⟨d.pages, d.writes + 1, d.unread, d.dead, lt⟩ : Dv).unread), .ob (w.heap.size) 27 (dvCells (.slice pa d.pages.length pc) d (.slice ua d.unread.length uc) (.slice fa d.faults.length fc)), .ob B1 27 (dvCells nilS dvNil nilS nilS), .ob B2 27 (dvCells (.slice a1 d.pages.length c1) (⟨d.pages, d.writes + 1, d.unread, d.dead, lt⟩ : Dv) (.slice au (⟨d.pages, d.writes + 1, d.unread, d.dead, lt⟩ : Dv).unread.length cu) (.slice af lt.length cf)), .sl ((.slice (some ⟨gq, 0, none⟩) nw.length c0)) 29 6 (nw.length) (fltRow nw), .sl ((.slice af lt.length cf)) 29 6 (lt.length) (fltRow lt)] w81 := (HS81.out).pull [2, 3, 0, 1, 4, 5, 6] rfl (pull_nd (HS81.out).nd [2, 3, 0, 1, 4, 5, 6] rfl (by decide))
                  have hpl := place_any (d := (⟨d.pages, d.writes + 1, d.unread, d.dead, lt⟩ : Dv)) (fa := af) (fl := lt.length) (fc := cf) s kt 256 h7 HKt.out HOk.out.1.all HSz.out (Nat.le_refl _) (by have := HOk.out.1.few; show d.unread.length ≤ 1000; omega)
                  go_simp
                  go_wp2_with (go_at_call 48; refine hpl.mono ?_; rintro e w82 ⟨u9, rfl, h9⟩)
                  obtain ⟨au9, cu9, rfl⟩ := own_slice (h9.own 1 rfl)
                  have HS82 : Hid (Hp w [.ob (w.heap.size) 27 (dvCells (.slice pa d.pages.length pc) d (.slice ua d.unread.length uc) (.slice fa d.faults.length fc)), .ob B1 27 (dvCells nilS dvNil nilS nilS), .sl ((.slice a1 d.pages.length c1)) 9 1 ((placeR (⟨d.pages, d.writes + 1, d.unread, d.dead, lt⟩ : Dv) (kt : Int) s 256).pages.length) (strRow (placeR (⟨d.pages, d.writes + 1, d.unread, d.dead, lt⟩ : Dv) (kt : Int) s 256).pages), .sl ((.slice au9 (placeR (⟨d.pages, d.writes + 1, d.unread, d.dead, lt⟩ : Dv) (kt : Int) s 256).unread.length cu9)) 3 1 ((placeR (⟨d.pages, d.writes + 1, d.unread, d.dead, lt⟩ : Dv) (kt : Int) s 256).unread.length) (intRow (placeR (⟨d.pages, d.writes + 1, d.unread, d.dead, lt⟩ : Dv) (kt : Int) s 256).unread), .ob B2 27 (dvCells (.slice a1 d.pages.length c1) (⟨d.pages, d.writes + 1, d.unread, d.dead, lt⟩ : Dv) (.slice au (⟨d.pages, d.writes + 1, d.unread, d.dead, lt⟩ : Dv).unread.length cu) (.slice af lt.length cf)), .sl ((.slice (some ⟨gq, 0, none⟩) nw.length c0)) 29 6 (nw.length) (fltRow nw), .sl ((.slice af lt.length cf)) 29 6 (lt.length) (fltRow lt)] w82) := h9.pull [2, 3, 0, 1, 4, 5, 6] rfl (pull_nd h9.nd [2, 3, 0, 1, 4, 5, 6] rfl (by decide))
                  refine hK.out _ _ (own_range (HS82.out.own 5 rfl) rfl (i * 6) (fltCells ⟨x.kind, x.at_, x.page, (kt : Int), x.byte, x.mask⟩) HF2.out) (fun hHeld => ?_)
                  clear hK K h9 hpl h7
                  try simp only [Act.put, List.setIfInBounds_toArray, List.set_cons_zero, List.set_cons_succ]
                  refine wpAnyH_ready (rs := [8]) (by kernel_rfl) (by simp) ?_
                  refine AllReadyH.cons (o := { dst := none, op := Op.store 27 (Operand.tmp 9) (Operand.tmp 99), type := 0, pos := "ref.go:194", after := #[{ on := 7, ground := Ground.data }, { on := 7, ground := Ground.chain }, { on := 0, ground := Ground.phase }, { on := 1, ground := Ground.phase }, { on := 2, ground := Ground.phase }, { on := 3, ground := Ground.phase }, { on := 4, ground := Ground.phase }, { on := 5, ground := Ground.phase }, { on := 6, ground := Ground.phase }, { on := 7, ground := Ground.phase }], guard := none }) rfl (fun K hK => ?_) (AllReadyH.nil)
                  rw [if_pos (by rfl)]
                  refine wp_store_ob 27 (.tmp 9) (.tmp 99) B2 (dvCells (.slice a1 d.pages.length c1) (placeR (⟨d.pages, d.writes + 1, d.unread, d.dead, lt⟩ : Dv) (kt : Int) s 256) (.slice au9 (placeR (⟨d.pages, d.writes + 1, d.unread, d.dead, lt⟩ : Dv) (kt : Int) s 256).unread.length cu9) (.slice af lt.length cf)) (dvCells (.slice a1 d.pages.length c1) (⟨d.pages, d.writes + 1, d.unread, d.dead, lt⟩ : Dv) (.slice au (⟨d.pages, d.writes + 1, d.unread, d.dead, lt⟩ : Dv).unread.length cu) (.slice af lt.length cf)) 27 rfl rfl rfl rfl ((HS82.out).get 4 rfl) (info_dv) (rfl) ((oneCell_dv _ _ _ _ _ _ _ _ _ _)) ?_
                  have HS83 : Hid (Hp w [.ob (w.heap.size) 27 (dvCells (.slice pa d.pages.length pc) d (.slice ua d.unread.length uc) (.slice fa d.faults.length fc)), .ob B1 27 (dvCells nilS dvNil nilS nilS), .sl ((.slice a1 d.pages.length c1)) 9 1 ((placeR (⟨d.pages, d.writes + 1, d.unread, d.dead, lt⟩ : Dv) (kt : Int) s 256).pages.length) (strRow (placeR (⟨d.pages, d.writes + 1, d.unread, d.dead, lt⟩ : Dv) (kt : Int) s 256).pages), .sl ((.slice au9 (placeR (⟨d.pages, d.writes + 1, d.unread, d.dead, lt⟩ : Dv) (kt : Int) s 256).unread.length cu9)) 3 1 ((placeR (⟨d.pages, d.writes + 1, d.unread, d.dead, lt⟩ : Dv) (kt : Int) s 256).unread.length) (intRow (placeR (⟨d.pages, d.writes + 1, d.unread, d.dead, lt⟩ : Dv) (kt : Int) s 256).unread), .ob B2 27 (dvCells (.slice a1 d.pages.length c1) (placeR (⟨d.pages, d.writes + 1, d.unread, d.dead, lt⟩ : Dv) (kt : Int) s 256) (.slice au9 (placeR (⟨d.pages, d.writes + 1, d.unread, d.dead, lt⟩ : Dv) (kt : Int) s 256).unread.length cu9) (.slice af lt.length cf)), .sl ((.slice (some ⟨gq, 0, none⟩) nw.length c0)) 29 6 (nw.length) (fltRow nw), .sl ((.slice af lt.length cf)) 29 6 (lt.length) (fltRow lt)] (w82.setRow B2 (dvCells (.slice a1 d.pages.length c1) (placeR (⟨d.pages, d.writes + 1, d.unread, d.dead, lt⟩ : Dv) (kt : Int) s 256) (.slice au9 (placeR (⟨d.pages, d.writes + 1, d.unread, d.dead, lt⟩ : Dv) (kt : Int) s 256).unread.length cu9) (.slice af lt.length cf)).toArray)) := (HS82.out).row 4 rfl (dvCells (.slice a1 d.pages.length c1) (placeR (⟨d.pages, d.writes + 1, d.unread, d.dead, lt⟩ : Dv) (kt : Int) s 256) (.slice au9 (placeR (⟨d.pages, d.writes + 1, d.unread, d.dead, lt⟩ : Dv) (kt : Int) s 256).unread.length cu9) (.slice af lt.length cf))
                  refine hK.out _ _ (own_range (HS83.out.own 5 rfl) rfl (i * 6) (fltCells ⟨x.kind, x.at_, x.page, (kt : Int), x.byte, x.mask⟩) HF2.out) (fun hHeld => ?_)
                  clear hK K
                  generalize (w82.setRow B2 (dvCells (.slice a1 d.pages.length c1) (placeR (⟨d.pages, d.writes + 1, d.unread, d.dead, lt⟩ : Dv) (kt : Int) s 256) (.slice au9 (placeR (⟨d.pages, d.writes + 1, d.unread, d.dead, lt⟩ : Dv) (kt : Int) s 256).unread.length cu9) (.slice af lt.length cf)).toArray) = w83 at *
                  try simp only [Act.put, List.setIfInBounds_toArray, List.set_cons_zero, List.set_cons_succ]
                  refine wpAnyH_done (by kernel_rfl) ?_ _
                  clear hHeld
                  go_wp2_with fail
                  go_roundw
                  case rel => exact ⟨true, (placeR (⟨d.pages, d.writes + 1, d.unread, d.dead, lt⟩ : Dv) (kt : Int) s 256), au9, cu9, i + 1, rfl, by go_num, HLt.out, HN.out, HS83.out⟩
                  case measure => simp [intOf]; have := HLt.out; omega
                have k2b : (x.kind == 2) = false := by rw [beq_eq_false_iff_ne]; exact k2
                by_cases k3 : x.kind = 3
                · obtain ⟨kt, hkt⟩ := Int.eq_ofNat_of_zero_le HXr.out.2.1.1
                  have HKt : Hid (kt < 256) := Lib.hid (by have := HXr.out; omega)
                  have HF2 : Hid (∀ t v, (fltCells ⟨x.kind, x.at_, x.page, x.target, (kt : Int), x.mask⟩)[t]? = some v → (fltRow nw)[i * 6 + t]? = some v) := Lib.hid (by have := HFl.out; rw [show x = ⟨x.kind, x.at_, x.page, x.target, (kt : Int), x.mask⟩ from by rw [← hkt]] at this; exact this)
                  have HN : Hid (LandSt (⟨d.pages, d.writes + 1, d.unread, d.dead, lt⟩ : Dv) k s nw (i + 1) true (placeR (⟨d.pages, d.writes + 1, d.unread, d.dead, lt⟩ : Dv) (k : Int) s kt)) := Lib.hid (by have := LandSt.torn HLx.out k3 HSt.out; rw [hkt] at this; exact this)
                  have k3b : (x.kind == 3) = true := by rw [k3]; rfl
                  clear k3 HSt hkt HFl k1 k2
                  go_upto_region 29 with (fail)
                  clear e0
                  refine wp_region_held_drew (S := fun w' => w'.rangeAt gq (i * 6) (fltCells ⟨x.kind, x.at_, x.page, x.target, (kt : Int), x.mask⟩)) (by kernel_rfl) (own_range ((HQ.out).drew.own 5 rfl) rfl (i * 6) (fltCells ⟨x.kind, x.at_, x.page, x.target, (kt : Int), x.mask⟩) HF2.out) (fun hHeld => ?_)
                  refine wpAnyH_take (i := 1) (oi := { dst := some 103, op := Op.move (Operand.tmp 1), type := 3, pos := "ref.go:197", after := #[], guard := none }) (v := ?q15v) rfl (by kernel_rfl) (by kernel_rfl) (by kernel_rfl) (fun _ _ _ h => h) (Or.inl ⟨by rfl, ?q15h⟩) hHeld ?q15r
                  case q15h => (intro wq hSw; clear hSw; go_simp; try with_reducible rfl)
                  try simp only [Act.put, List.setIfInBounds_toArray, List.set_cons_zero, List.set_cons_succ]
                  refine wpAnyH_take (i := 2) (oi := { dst := some 104, op := Op.move (Operand.tmp 2), type := 9, pos := "ref.go:197", after := #[], guard := none }) (v := ?q16v) rfl (by kernel_rfl) (by kernel_rfl) (by kernel_rfl) (fun _ _ _ h => h) (Or.inl ⟨by rfl, ?q16h⟩) hHeld ?q16r
                  case q16h => (intro wq hSw; clear hSw; go_simp; try with_reducible rfl)
                  try simp only [Act.put, List.setIfInBounds_toArray, List.set_cons_zero, List.set_cons_succ]
                  refine wpAnyH_take (i := 3) (oi := { dst := some 105, op := Op.move (Operand.tmp 10), type := 25, pos := "ref.go:197", after := #[], guard := none }) (v := ?q17v) rfl (by kernel_rfl) (by kernel_rfl) (by kernel_rfl) (fun _ _ _ h => h) (Or.inl ⟨by rfl, ?q17h⟩) hHeld ?q17r
                  case q17h => (intro wq hSw; clear hSw; go_simp; try with_reducible rfl)
                  try simp only [Act.put, List.setIfInBounds_toArray, List.set_cons_zero, List.set_cons_succ]
                  refine wpAnyH_take (i := 4) (oi := { dst := some 106, op := Op.move (Operand.tmp 13), type := 3, pos := "ref.go:197", after := #[], guard := none }) (v := ?q18v) rfl (by kernel_rfl) (by kernel_rfl) (by kernel_rfl) (fun _ _ _ h => h) (Or.inl ⟨by rfl, ?q18h⟩) hHeld ?q18r
                  case q18h => (intro wq hSw; clear hSw; go_simp; try with_reducible rfl)
                  try simp only [Act.put, List.setIfInBounds_toArray, List.set_cons_zero, List.set_cons_succ]
                  refine wpAnyH_take (i := 5) (oi := { dst := some 107, op := Op.indexAddr 25 (Operand.tmp 105) (Operand.tmp 106), type := 0, pos := "ref.go:197", after := #[{ on := 3, ground := Ground.data }, { on := 4, ground := Ground.data }], guard := none }) (v := ?q19v) rfl (by kernel_rfl) (by kernel_rfl) (by kernel_rfl) (fun _ _ _ h => h) (Or.inl ⟨by rfl, ?q19h⟩) hHeld ?q19r
                  case q19h => (intro wq hSw; clear hSw; go_simp; try with_reducible rfl)
                  try simp only [Act.put, List.setIfInBounds_toArray, List.set_cons_zero, List.set_cons_succ]
                  refine wpAnyH_take (i := 6) (oi := { dst := some 108, op := Op.fieldAddr 29 (Operand.tmp 107) 4, type := 0, pos := "ref.go:197", after := #[{ on := 5, ground := Ground.data }], guard := none }) (v := ?q20v) rfl (by kernel_rfl) (by kernel_rfl) (by kernel_rfl) (fun _ _ _ h => h) (Or.inl ⟨by rfl, ?q20h⟩) hHeld ?q20r
                  case q20h => (intro wq hSw; clear hSw; go_simp; try with_reducible rfl)
                  try simp only [Act.put, List.setIfInBounds_toArray, List.set_cons_zero, List.set_cons_succ]
                  refine wpAnyH_take (i := 7) (oi := { dst := some 109, op := Op.load 3 (Operand.tmp 108), type := 3, pos := "ref.go:197", after := #[{ on := 6, ground := Ground.data }], guard := none }) (v := .int .i64 (kt : Int)) rfl (by kernel_rfl) (by kernel_rfl) (by kernel_rfl) (fun _ _ _ h => h) (Or.inl ⟨by rfl, ?q21h⟩) hHeld ?q21r
                  case q21h => (intro wq hSw; have qL := hSw 4 _ rfl; clear hSw; go_simp; try with_reducible rfl)
                  try simp only [Act.put, List.setIfInBounds_toArray, List.set_cons_zero, List.set_cons_succ]
                  refine wpAnyH_ready (rs := [0]) (by kernel_rfl) (by simp) ?_
                  refine AllReadyH.cons (o := { dst := some 102, op := Op.load 27 (Operand.tmp 9), type := 27, pos := "ref.go:197", after := #[], guard := none }) rfl (fun K hK => ?_) (AllReadyH.nil)
                  rw [if_pos (by rfl)]
                  refine wp_load_ob 27 (.tmp 9) B2 (dvCells (.slice a1 d.pages.length c1) (⟨d.pages, d.writes + 1, d.unread, d.dead, lt⟩ : Dv) (.slice au (⟨d.pages, d.writes + 1, d.unread, d.dead, lt⟩ : Dv).unread.length cu) (.slice af lt.length cf)) 27 HUD.out rfl rfl (((HQ.out).drew).get 4 rfl) rfl (info_dv) ?_
                  have HS81 : Hid (Hp w [.ob (w.heap.size) 27 (dvCells (.slice pa d.pages.length pc) d (.slice ua d.unread.length uc) (.slice fa d.faults.length fc)), .ob B1 27 (dvCells nilS dvNil nilS nilS), .sl ((.slice a1 d.pages.length c1)) 9 1 ((⟨d.pages, d.writes + 1, d.unread, d.dead, lt⟩ : Dv).pages.length) (strRow (⟨d.pages, d.writes + 1, d.unread, d.dead, lt⟩ : Dv).pages), .sl ((.slice au (⟨d.pages, d.writes + 1, d.unread, d.dead, lt⟩ : Dv).unread.length cu)) 3 1 ((⟨d.pages, d.writes + 1, d.unread, d.dead, lt⟩ : Dv).unread.length) (intRow (⟨d.pages, d.writes + 1, d.unread, d.dead, lt⟩ : Dv).unread), .ob B2 27 (dvCells (.slice a1 d.pages.length c1) (⟨d.pages, d.writes + 1, d.unread, d.dead, lt⟩ : Dv) (.slice au (⟨d.pages, d.writes + 1, d.unread, d.dead, lt⟩ : Dv).unread.length cu) (.slice af lt.length cf)), .sl ((.slice (some ⟨gq, 0, none⟩) nw.length c0)) 29 6 (nw.length) (fltRow nw), .sl ((.slice af lt.length cf)) 29 6 (lt.length) (fltRow lt)] (wr.drew)) := (HQ.out).drew
                  refine hK.out _ _ (own_range (HS81.out.own 5 rfl) rfl (i * 6) (fltCells ⟨x.kind, x.at_, x.page, x.target, (kt : Int), x.mask⟩) HF2.out) (fun hHeld => ?_)
                  clear hK K
                  generalize wr.drew = w81 at *
                  try simp only [Act.put, List.setIfInBounds_toArray, List.set_cons_zero, List.set_cons_succ]
                  refine wpAnyH_ready (rs := [8]) (by kernel_rfl) (by simp) ?_
                  refine AllReadyH.cons (o := { dst := some 110, op := Op.call { callee := Callee.value (Operand.func 48), args := #[Operand.tmp 102, Operand.tmp 103, Operand.tmp 104, Operand.tmp 109], argTypes := #[27, 3, 9, 3] }, type := 27, pos := "ref.go:197", after := #[{ on := 0, ground := Ground.data }, { on := 1, ground := Ground.data }, { on := 2, ground := Ground.data }, { on := 7, ground := Ground.data }], guard := none }) rfl (fun K hK => ?_) (AllReadyH.nil)
                  have h7 : Hp w [.sl ((.slice a1 d.pages.length c1)) 9 1 ((⟨d.pages, d.writes + 1, d.unread, d.dead, lt⟩ : Dv).pages.length) (strRow (⟨d.pages, d.writes + 1, d.unread, d.dead, lt⟩ : Dv).pages), .sl ((.slice au (⟨d.pages, d.writes + 1, d.unread, d.dead, lt⟩ : Dv).unread.length cu)) 3 1 ((⟨d.pages, d.writes + 1, d.unread, d.dead, lt⟩ : Dv).unread.length) (intRow (⟨d.pages, d.writes + 1, d.unread, d.dead, lt⟩ : Dv).unread), .ob (w.heap.size) 27 (dvCells (.slice pa d.pages.length pc) d (.slice ua d.unread.length uc) (.slice fa d.faults.length fc)), .ob B1 27 (dvCells nilS dvNil nilS nilS), .ob B2 27 (dvCells (.slice a1 d.pages.length c1) (⟨d.pages, d.writes + 1, d.unread, d.dead, lt⟩ : Dv) (.slice au (⟨d.pages, d.writes + 1, d.unread, d.dead, lt⟩ : Dv).unread.length cu) (.slice af lt.length cf)), .sl ((.slice (some ⟨gq, 0, none⟩) nw.length c0)) 29 6 (nw.length) (fltRow nw), .sl ((.slice af lt.length cf)) 29 6 (lt.length) (fltRow lt)] w81 := (HS81.out).pull [2, 3, 0, 1, 4, 5, 6] rfl (pull_nd (HS81.out).nd [2, 3, 0, 1, 4, 5, 6] rfl (by decide))
                  have hpl := place_any (d := (⟨d.pages, d.writes + 1, d.unread, d.dead, lt⟩ : Dv)) (fa := af) (fl := lt.length) (fc := cf) s k kt h7 HKn.out HOk.out.1.all HSz.out (Nat.le_of_lt HKt.out) (by have := HOk.out.1.few; show d.unread.length ≤ 1000; omega)
                  go_simp
                  go_wp2_with (go_at_call 48; refine hpl.mono ?_; rintro e w82 ⟨u9, rfl, h9⟩)
                  obtain ⟨au9, cu9, rfl⟩ := own_slice (h9.own 1 rfl)
                  have HS82 : Hid (Hp w [.ob (w.heap.size) 27 (dvCells (.slice pa d.pages.length pc) d (.slice ua d.unread.length uc) (.slice fa d.faults.length fc)), .ob B1 27 (dvCells nilS dvNil nilS nilS), .sl ((.slice a1 d.pages.length c1)) 9 1 ((placeR (⟨d.pages, d.writes + 1, d.unread, d.dead, lt⟩ : Dv) (k : Int) s kt).pages.length) (strRow (placeR (⟨d.pages, d.writes + 1, d.unread, d.dead, lt⟩ : Dv) (k : Int) s kt).pages), .sl ((.slice au9 (placeR (⟨d.pages, d.writes + 1, d.unread, d.dead, lt⟩ : Dv) (k : Int) s kt).unread.length cu9)) 3 1 ((placeR (⟨d.pages, d.writes + 1, d.unread, d.dead, lt⟩ : Dv) (k : Int) s kt).unread.length) (intRow (placeR (⟨d.pages, d.writes + 1, d.unread, d.dead, lt⟩ : Dv) (k : Int) s kt).unread), .ob B2 27 (dvCells (.slice a1 d.pages.length c1) (⟨d.pages, d.writes + 1, d.unread, d.dead, lt⟩ : Dv) (.slice au (⟨d.pages, d.writes + 1, d.unread, d.dead, lt⟩ : Dv).unread.length cu) (.slice af lt.length cf)), .sl ((.slice (some ⟨gq, 0, none⟩) nw.length c0)) 29 6 (nw.length) (fltRow nw), .sl ((.slice af lt.length cf)) 29 6 (lt.length) (fltRow lt)] w82) := h9.pull [2, 3, 0, 1, 4, 5, 6] rfl (pull_nd h9.nd [2, 3, 0, 1, 4, 5, 6] rfl (by decide))
                  refine hK.out _ _ (own_range (HS82.out.own 5 rfl) rfl (i * 6) (fltCells ⟨x.kind, x.at_, x.page, x.target, (kt : Int), x.mask⟩) HF2.out) (fun hHeld => ?_)
                  clear hK K h9 hpl h7
                  try simp only [Act.put, List.setIfInBounds_toArray, List.set_cons_zero, List.set_cons_succ]
                  refine wpAnyH_ready (rs := [9]) (by kernel_rfl) (by simp) ?_
                  refine AllReadyH.cons (o := { dst := none, op := Op.store 27 (Operand.tmp 9) (Operand.tmp 110), type := 0, pos := "ref.go:197", after := #[{ on := 8, ground := Ground.data }, { on := 8, ground := Ground.chain }, { on := 0, ground := Ground.phase }, { on := 1, ground := Ground.phase }, { on := 2, ground := Ground.phase }, { on := 3, ground := Ground.phase }, { on := 4, ground := Ground.phase }, { on := 5, ground := Ground.phase }, { on := 6, ground := Ground.phase }, { on := 7, ground := Ground.phase }, { on := 8, ground := Ground.phase }], guard := none }) rfl (fun K hK => ?_) (AllReadyH.nil)
                  rw [if_pos (by rfl)]
                  refine wp_store_ob 27 (.tmp 9) (.tmp 110) B2 (dvCells (.slice a1 d.pages.length c1) (placeR (⟨d.pages, d.writes + 1, d.unread, d.dead, lt⟩ : Dv) (k : Int) s kt) (.slice au9 (placeR (⟨d.pages, d.writes + 1, d.unread, d.dead, lt⟩ : Dv) (k : Int) s kt).unread.length cu9) (.slice af lt.length cf)) (dvCells (.slice a1 d.pages.length c1) (⟨d.pages, d.writes + 1, d.unread, d.dead, lt⟩ : Dv) (.slice au (⟨d.pages, d.writes + 1, d.unread, d.dead, lt⟩ : Dv).unread.length cu) (.slice af lt.length cf)) 27 rfl rfl rfl rfl ((HS82.out).get 4 rfl) (info_dv) (rfl) ((oneCell_dv _ _ _ _ _ _ _ _ _ _)) ?_
                  have HS83 : Hid (Hp w [.ob (w.heap.size) 27 (dvCells (.slice pa d.pages.length pc) d (.slice ua d.unread.length uc) (.slice fa d.faults.length fc)), .ob B1 27 (dvCells nilS dvNil nilS nilS), .sl ((.slice a1 d.pages.length c1)) 9 1 ((placeR (⟨d.pages, d.writes + 1, d.unread, d.dead, lt⟩ : Dv) (k : Int) s kt).pages.length) (strRow (placeR (⟨d.pages, d.writes + 1, d.unread, d.dead, lt⟩ : Dv) (k : Int) s kt).pages), .sl ((.slice au9 (placeR (⟨d.pages, d.writes + 1, d.unread, d.dead, lt⟩ : Dv) (k : Int) s kt).unread.length cu9)) 3 1 ((placeR (⟨d.pages, d.writes + 1, d.unread, d.dead, lt⟩ : Dv) (k : Int) s kt).unread.length) (intRow (placeR (⟨d.pages, d.writes + 1, d.unread, d.dead, lt⟩ : Dv) (k : Int) s kt).unread), .ob B2 27 (dvCells (.slice a1 d.pages.length c1) (placeR (⟨d.pages, d.writes + 1, d.unread, d.dead, lt⟩ : Dv) (k : Int) s kt) (.slice au9 (placeR (⟨d.pages, d.writes + 1, d.unread, d.dead, lt⟩ : Dv) (k : Int) s kt).unread.length cu9) (.slice af lt.length cf)), .sl ((.slice (some ⟨gq, 0, none⟩) nw.length c0)) 29 6 (nw.length) (fltRow nw), .sl ((.slice af lt.length cf)) 29 6 (lt.length) (fltRow lt)] (w82.setRow B2 (dvCells (.slice a1 d.pages.length c1) (placeR (⟨d.pages, d.writes + 1, d.unread, d.dead, lt⟩ : Dv) (k : Int) s kt) (.slice au9 (placeR (⟨d.pages, d.writes + 1, d.unread, d.dead, lt⟩ : Dv) (k : Int) s kt).unread.length cu9) (.slice af lt.length cf)).toArray)) := (HS82.out).row 4 rfl (dvCells (.slice a1 d.pages.length c1) (placeR (⟨d.pages, d.writes + 1, d.unread, d.dead, lt⟩ : Dv) (k : Int) s kt) (.slice au9 (placeR (⟨d.pages, d.writes + 1, d.unread, d.dead, lt⟩ : Dv) (k : Int) s kt).unread.length cu9) (.slice af lt.length cf))
                  refine hK.out _ _ (own_range (HS83.out.own 5 rfl) rfl (i * 6) (fltCells ⟨x.kind, x.at_, x.page, x.target, (kt : Int), x.mask⟩) HF2.out) (fun hHeld => ?_)
                  clear hK K
                  generalize (w82.setRow B2 (dvCells (.slice a1 d.pages.length c1) (placeR (⟨d.pages, d.writes + 1, d.unread, d.dead, lt⟩ : Dv) (k : Int) s kt) (.slice au9 (placeR (⟨d.pages, d.writes + 1, d.unread, d.dead, lt⟩ : Dv) (k : Int) s kt).unread.length cu9) (.slice af lt.length cf)).toArray) = w83 at *
                  try simp only [Act.put, List.setIfInBounds_toArray, List.set_cons_zero, List.set_cons_succ]
                  refine wpAnyH_done (by kernel_rfl) ?_ _
                  clear hHeld
                  go_wp2_with fail
                  go_roundw
                  case rel => exact ⟨true, (placeR (⟨d.pages, d.writes + 1, d.unread, d.dead, lt⟩ : Dv) (k : Int) s kt), au9, cu9, i + 1, rfl, by go_num, HLt.out, HN.out, HS83.out⟩
                  case measure => simp [intOf]; have := HLt.out; omega
                have k3b : (x.kind == 3) = false := by rw [beq_eq_false_iff_ne]; exact k3
                have HN : Hid (LandSt (⟨d.pages, d.writes + 1, d.unread, d.dead, lt⟩ : Dv) k s nw (i + 1) false (⟨d.pages, d.writes + 1, d.unread, d.dead, lt⟩ : Dv)) := Lib.hid (LandSt.none HLx.out k1 k2 k3 HSt.out)
                clear HSt k1 k2 k3
                go_wp2_with fail
                go_roundw
                case rel => exact ⟨false, (⟨d.pages, d.writes + 1, d.unread, d.dead, lt⟩ : Dv), au, cu, i + 1, rfl, by go_num, HLt.out, HN.out, HQ.out⟩
                case measure => simp [intOf]; have := HLt.out; omega
            case rest =>
              obtain ⟨dn, dd, au, cu, rfl, hend, hs⟩ := hcut
              have HEnd := Lib.hid hend
              clear HQ6
              have HQ := Lib.hid hs
              clear hend hs
              obtain ⟨E, hE⟩ : ∃ E, landR (⟨d.pages, d.writes + 1, d.unread, d.dead, lt⟩ : Dv) k s nw = E := ⟨_, rfl⟩
              have HE := Lib.hid hE
              have HI : Hid (DvInv d.pages.length 64 E) := Lib.hid (by rw [← hE]; exact land_inv (d := (⟨d.pages, d.writes + 1, d.unread, d.dead, lt⟩ : Dv)) ⟨HOk.out.1.num, HOk.out.1.all, HOk.out.1.asc, HOk.out.1.few⟩ (k : Int) ⟨by omega, by have := HKn.out; omega⟩ s HSz.out nw (fun x hx => ⟨(HRg.out x hx).1, (HRg.out x hx).2.1⟩))
              have HFe : Hid (E.faults = lt) := Lib.hid (by rw [← hE, land_faults])
              have HWr2 : Hid (writeR d k s = (nw.foldl happenR E, 0)) := Lib.hid (by rw [← hE]; exact HWr.out)
              clear hE HWr
              generalize wc = w40 at *
              go_upto_if 112 with (fail)
              go_cut [] (fun wy => ∃ (au : Option Addr) (cu : Nat), Hp w [.ob (w.heap.size) 27 (dvCells (.slice pa d.pages.length pc) d (.slice ua d.unread.length uc) (.slice fa d.faults.length fc)), .ob B1 27 (dvCells nilS dvNil nilS nilS), .sl ((.slice a1 d.pages.length c1)) 9 1 (E.pages.length) (strRow E.pages), .sl ((.slice au E.unread.length cu)) 3 1 (E.unread.length) (intRow E.unread), .ob B2 27 (dvCells (.slice a1 d.pages.length c1) E (.slice au E.unread.length cu) (.slice af lt.length cf)), .sl ((.slice a0 nw.length c0)) 29 6 (nw.length) (fltRow nw), .sl ((.slice af lt.length cf)) 29 6 (lt.length) (fltRow lt)] wy)
              case first =>
                cases dn
                · obtain ⟨hd2, hp2⟩ := HEnd.out
                  subst hd2
                  have HP3 : Hid (placeR (⟨d.pages, d.writes + 1, d.unread, d.dead, lt⟩ : Dv) (k : Int) s 256 = E) := Lib.hid (by rw [← hp2]; exact HE.out)
                  clear HEnd HE hp2
                  have h7 : Hp w [.sl ((.slice a1 d.pages.length c1)) 9 1 ((⟨d.pages, d.writes + 1, d.unread, d.dead, lt⟩ : Dv).pages.length) (strRow (⟨d.pages, d.writes + 1, d.unread, d.dead, lt⟩ : Dv).pages), .sl ((.slice au (⟨d.pages, d.writes + 1, d.unread, d.dead, lt⟩ : Dv).unread.length cu)) 3 1 ((⟨d.pages, d.writes + 1, d.unread, d.dead, lt⟩ : Dv).unread.length) (intRow (⟨d.pages, d.writes + 1, d.unread, d.dead, lt⟩ : Dv).unread), .ob (w.heap.size) 27 (dvCells (.slice pa d.pages.length pc) d (.slice ua d.unread.length uc) (.slice fa d.faults.length fc)), .ob B1 27 (dvCells nilS dvNil nilS nilS), .ob B2 27 (dvCells (.slice a1 d.pages.length c1) (⟨d.pages, d.writes + 1, d.unread, d.dead, lt⟩ : Dv) (.slice au (⟨d.pages, d.writes + 1, d.unread, d.dead, lt⟩ : Dv).unread.length cu) (.slice af lt.length cf)), .sl ((.slice a0 nw.length c0)) 29 6 (nw.length) (fltRow nw), .sl ((.slice af lt.length cf)) 29 6 (lt.length) (fltRow lt)] w40 := (HQ.out).pull [2, 3, 0, 1, 4, 5, 6] rfl (pull_nd (HQ.out).nd [2, 3, 0, 1, 4, 5, 6] rfl (by decide))
                  have hpl := place_any (d := (⟨d.pages, d.writes + 1, d.unread, d.dead, lt⟩ : Dv)) (fa := af) (fl := lt.length) (fc := cf) s k 256 h7 HKn.out HOk.out.1.all HSz.out (Nat.le_refl _) (by have := HOk.out.1.few; show d.unread.length ≤ 1000; omega)
                  have HPl := Lib.hid hpl
                  clear h7 hpl
                  go_wp2_with (first | ((with_reducible refine wpList_load_ob 27 (.tmp 9) B2 (dvCells (.slice a1 d.pages.length c1) (⟨d.pages, d.writes + 1, d.unread, d.dead, lt⟩ : Dv) (.slice au (⟨d.pages, d.writes + 1, d.unread, d.dead, lt⟩ : Dv).unread.length cu) (.slice af lt.length cf)) 27 HUD.out ?_ ?_ ?_ ?_ ?_); (exact rfl); (exact (HQ.out).get 4 rfl); (exact rfl); (exact info_dv); simp only [Act.put, List.setIfInBounds_toArray, List.set_cons_zero, List.set_cons_succ]))
                  refine (HPl.out).mono ?_
                  rintro e w121 ⟨u9, rfl, h9⟩
                  obtain ⟨au9, cu9, rfl⟩ := own_slice (h9.own 1 rfl)
                  have HS121 : Hid (Hp w [.ob (w.heap.size) 27 (dvCells (.slice pa d.pages.length pc) d (.slice ua d.unread.length uc) (.slice fa d.faults.length fc)), .ob B1 27 (dvCells nilS dvNil nilS nilS), .sl ((.slice a1 d.pages.length c1)) 9 1 ((placeR (⟨d.pages, d.writes + 1, d.unread, d.dead, lt⟩ : Dv) (k : Int) s 256).pages.length) (strRow (placeR (⟨d.pages, d.writes + 1, d.unread, d.dead, lt⟩ : Dv) (k : Int) s 256).pages), .sl ((.slice au9 (placeR (⟨d.pages, d.writes + 1, d.unread, d.dead, lt⟩ : Dv) (k : Int) s 256).unread.length cu9)) 3 1 ((placeR (⟨d.pages, d.writes + 1, d.unread, d.dead, lt⟩ : Dv) (k : Int) s 256).unread.length) (intRow (placeR (⟨d.pages, d.writes + 1, d.unread, d.dead, lt⟩ : Dv) (k : Int) s 256).unread), .ob B2 27 (dvCells (.slice a1 d.pages.length c1) (⟨d.pages, d.writes + 1, d.unread, d.dead, lt⟩ : Dv) (.slice au (⟨d.pages, d.writes + 1, d.unread, d.dead, lt⟩ : Dv).unread.length cu) (.slice af lt.length cf)), .sl ((.slice a0 nw.length c0)) 29 6 (nw.length) (fltRow nw), .sl ((.slice af lt.length cf)) 29 6 (lt.length) (fltRow lt)] w121) := h9.pull [2, 3, 0, 1, 4, 5, 6] rfl (pull_nd h9.nd [2, 3, 0, 1, 4, 5, 6] rfl (by decide))
                  clear h9
                  clear HQ
                  go_wp2_with (first | ((with_reducible refine wpList_store_ob 27 (.tmp 9) B2 (dvCells (.slice a1 d.pages.length c1) (placeR (⟨d.pages, d.writes + 1, d.unread, d.dead, lt⟩ : Dv) (k : Int) s 256) (.slice au9 (placeR (⟨d.pages, d.writes + 1, d.unread, d.dead, lt⟩ : Dv) (k : Int) s 256).unread.length cu9) (.slice af lt.length cf)) (dvCells (.slice a1 d.pages.length c1) (⟨d.pages, d.writes + 1, d.unread, d.dead, lt⟩ : Dv) (.slice au (⟨d.pages, d.writes + 1, d.unread, d.dead, lt⟩ : Dv).unread.length cu) (.slice af lt.length cf)) 27 ?_ ?_ ?_ ?_ ?_ ?_ ?_); (exact rfl); (exact rfl); (exact (HS121.out).get 4 rfl); (exact info_dv); (exact rfl); (exact (oneCell_dv _ _ _ _ _ _ _ _ _ _)); skip))
                  have HS122 : Hid (Hp w [.ob (w.heap.size) 27 (dvCells (.slice pa d.pages.length pc) d (.slice ua d.unread.length uc) (.slice fa d.faults.length fc)), .ob B1 27 (dvCells nilS dvNil nilS nilS), .sl ((.slice a1 d.pages.length c1)) 9 1 ((placeR (⟨d.pages, d.writes + 1, d.unread, d.dead, lt⟩ : Dv) (k : Int) s 256).pages.length) (strRow (placeR (⟨d.pages, d.writes + 1, d.unread, d.dead, lt⟩ : Dv) (k : Int) s 256).pages), .sl ((.slice au9 (placeR (⟨d.pages, d.writes + 1, d.unread, d.dead, lt⟩ : Dv) (k : Int) s 256).unread.length cu9)) 3 1 ((placeR (⟨d.pages, d.writes + 1, d.unread, d.dead, lt⟩ : Dv) (k : Int) s 256).unread.length) (intRow (placeR (⟨d.pages, d.writes + 1, d.unread, d.dead, lt⟩ : Dv) (k : Int) s 256).unread), .ob B2 27 (dvCells (.slice a1 d.pages.length c1) (placeR (⟨d.pages, d.writes + 1, d.unread, d.dead, lt⟩ : Dv) (k : Int) s 256) (.slice au9 (placeR (⟨d.pages, d.writes + 1, d.unread, d.dead, lt⟩ : Dv) (k : Int) s 256).unread.length cu9) (.slice af lt.length cf)), .sl ((.slice a0 nw.length c0)) 29 6 (nw.length) (fltRow nw), .sl ((.slice af lt.length cf)) 29 6 (lt.length) (fltRow lt)] (w121.setRow B2 (dvCells (.slice a1 d.pages.length c1) (placeR (⟨d.pages, d.writes + 1, d.unread, d.dead, lt⟩ : Dv) (k : Int) s 256) (.slice au9 (placeR (⟨d.pages, d.writes + 1, d.unread, d.dead, lt⟩ : Dv) (k : Int) s 256).unread.length cu9) (.slice af lt.length cf)).toArray)) := (HS121.out).row 4 rfl (dvCells (.slice a1 d.pages.length c1) (placeR (⟨d.pages, d.writes + 1, d.unread, d.dead, lt⟩ : Dv) (k : Int) s 256) (.slice au9 (placeR (⟨d.pages, d.writes + 1, d.unread, d.dead, lt⟩ : Dv) (k : Int) s 256).unread.length cu9) (.slice af lt.length cf))
                  clear HS121
                  generalize (w121.setRow B2 (dvCells (.slice a1 d.pages.length c1) (placeR (⟨d.pages, d.writes + 1, d.unread, d.dead, lt⟩ : Dv) (k : Int) s 256) (.slice au9 (placeR (⟨d.pages, d.writes + 1, d.unread, d.dead, lt⟩ : Dv) (k : Int) s 256).unread.length cu9) (.slice af lt.length cf)).toArray) = w122 at *
                  have HZ9 := HS122.out
                  rw [HP3.out] at HZ9
                  go_meet
                  exact ⟨au9, cu9, HZ9⟩
                · obtain rfl : dd = E := Eq.trans (show dd = landR (⟨d.pages, d.writes + 1, d.unread, d.dead, lt⟩ : Dv) k s nw from HEnd.out) HE.out
                  go_wp2_with fail
                  go_meet
                  exact ⟨au, cu, HQ.out⟩
              case rest =>
                obtain ⟨au2, cu2, hs⟩ := hcut
                clear HQ HEnd HE
                have HQ3 := Lib.hid hs
                clear hs
                generalize wc = w41 at *
                obtain ⟨pv, hpv⟩ : ∃ pv : Value, (.slice a1 d.pages.length c1) = pv := ⟨_, rfl⟩
                rw [hpv] at HQ3
                clear hpv
                go_wp2_with fail
                go_loopw [14] (fun si wy => ∃ (au : Option Addr) (cu : Nat) (j : Nat), si = .int .i64 j ∧ j ≤ nw.length ∧ Hp w [.ob (w.heap.size) 27 (dvCells (.slice pa d.pages.length pc) d (.slice ua d.unread.length uc) (.slice fa d.faults.length fc)), .ob B1 27 (dvCells nilS dvNil nilS nilS), .sl pv 9 1 (((nw.take j).foldl happenR E).pages.length) (strRow ((nw.take j).foldl happenR E).pages), .sl ((.slice au ((nw.take j).foldl happenR E).unread.length cu)) 3 1 (((nw.take j).foldl happenR E).unread.length) (intRow ((nw.take j).foldl happenR E).unread), .ob B2 27 (dvCells pv ((nw.take j).foldl happenR E) (.slice au ((nw.take j).foldl happenR E).unread.length cu) (.slice af lt.length cf)), .sl ((.slice a0 nw.length c0)) 29 6 (nw.length) (fltRow nw), .sl ((.slice af lt.length cf)) 29 6 (lt.length) (fltRow lt)] wy) (fun si _ => nw.length - (intOf si).toNat)
                case atStart => exact ⟨au2, cu2, 0, rfl, Nat.zero_le _, HQ3.out⟩
                case round =>
                  obtain ⟨au, cu, j, rfl, hj, hs⟩ := hrel
                  clear HQ3
                  have HQ := Lib.hid hs
                  clear hs
                  have hj0 : (0 : Int) ≤ (j : Int) := by omega
                  have hjm : (j : Int) ≤ 64 := by have := HNn.out; omega
                  by_cases hlt : j < nw.length
                  case neg =>
                    have hji : ¬ (j : Int) < (nw.length : Int) := by omega
                    have HQ4 : Hid (Hp w [.ob (w.heap.size) 27 (dvCells (.slice pa d.pages.length pc) d (.slice ua d.unread.length uc) (.slice fa d.faults.length fc)), .ob B1 27 (dvCells nilS dvNil nilS nilS), .sl pv 9 1 ((nw.foldl happenR E).pages.length) (strRow (nw.foldl happenR E).pages), .sl ((.slice au (nw.foldl happenR E).unread.length cu)) 3 1 ((nw.foldl happenR E).unread.length) (intRow (nw.foldl happenR E).unread), .ob B2 27 (dvCells pv (nw.foldl happenR E) (.slice au (nw.foldl happenR E).unread.length cu) (.slice af lt.length cf)), .sl ((.slice a0 nw.length c0)) 29 6 (nw.length) (fltRow nw), .sl ((.slice af lt.length cf)) 29 6 (lt.length) (fltRow lt)] wr) := by
                      have h := HQ.out
                      rw [show j = nw.length by omega, List.take_length] at h
                      exact Lib.hid h
                    have HFz : Hid ((nw.foldl happenR E).faults = lt) := Lib.hid (by rw [fold_faults]; exact HFe.out)
                    clear HQ hlt hj
                    generalize nw.foldl happenR E = Z at *
                    obtain ⟨ap, cp, rfl⟩ := own_slice (HQ4.out.own 2 rfl)
                    go_wp2_with (first | ((with_reducible refine wpList_load_ob 27 (.tmp 9) B2 (dvCells (.slice ap Z.pages.length cp) Z (.slice au Z.unread.length cu) (.slice af lt.length cf)) 27 HUD.out ?_ ?_ ?_ ?_ ?_); (exact rfl); (exact (HQ4.out).get 4 rfl); (exact rfl); (exact info_dv); simp only [Act.put, List.setIfInBounds_toArray, List.set_cons_zero, List.set_cons_succ]) | ((with_reducible refine wpList_store_ob 27 (.tmp 6) B1 (dvCells (.slice ap Z.pages.length cp) Z (.slice au Z.unread.length cu) (.slice af lt.length cf)) (dvCells nilS dvNil nilS nilS) 27 ?_ ?_ ?_ ?_ ?_ ?_ ?_); (exact rfl); (exact rfl); (exact (HQ4.out).get 1 rfl); (exact info_dv); (exact rfl); (exact (oneCell_dv _ _ _ _ _ _ _ _ _ _)); skip))
                    have HS141 : Hid (Hp w [.ob (w.heap.size) 27 (dvCells (.slice pa d.pages.length pc) d (.slice ua d.unread.length uc) (.slice fa d.faults.length fc)), .ob B1 27 (dvCells (.slice ap Z.pages.length cp) Z (.slice au Z.unread.length cu) (.slice af lt.length cf)), .sl ((.slice ap Z.pages.length cp)) 9 1 (Z.pages.length) (strRow Z.pages), .sl ((.slice au Z.unread.length cu)) 3 1 (Z.unread.length) (intRow Z.unread), .ob B2 27 (dvCells (.slice ap Z.pages.length cp) Z (.slice au Z.unread.length cu) (.slice af lt.length cf)), .sl ((.slice a0 nw.length c0)) 29 6 (nw.length) (fltRow nw), .sl ((.slice af lt.length cf)) 29 6 (lt.length) (fltRow lt)] (wr.setRow B1 (dvCells (.slice ap Z.pages.length cp) Z (.slice au Z.unread.length cu) (.slice af lt.length cf)).toArray)) := (HQ4.out).row 1 rfl (dvCells (.slice ap Z.pages.length cp) Z (.slice au Z.unread.length cu) (.slice af lt.length cf))
                    clear HQ4
                    generalize (wr.setRow B1 (dvCells (.slice ap Z.pages.length cp) Z (.slice au Z.unread.length cu) (.slice af lt.length cf)).toArray) = w141 at *
                    refine bodyPost_ret (results_ob_tmp Try.results21 _ _ B1 (dvCells (.slice ap Z.pages.length cp) Z (.slice au Z.unread.length cu) (.slice af lt.length cf)) 27 _ rfl ((HS141.out).get 1 rfl) HUD.out rfl info_dv) rfl ?_
                    obtain ⟨R', hrd, hin, hnew⟩ := own_dv (d := Z) ((HS141.out).own 2 rfl) ((HS141.out).own 3 rfl) (by rw [HFz.out]; exact (HS141.out).own 6 rfl)
                    rw [HWr2.out]
                    exact ⟨_, _, _, R', rfl, hrd, hin, fun r hr => .inl (hnew r hr), (HS141.out).old⟩
                  case pos =>
                  have hji : (j : Int) < (nw.length : Int) := by omega
                  have ho := HQ.out.own 5 rfl
                  rcases ho.2 with ⟨_, h0⟩ | ⟨gq, cq, curq, hvq, hBq, hgq, hq1, hq2, hq3, hq4⟩
                  · omega
                  have ea : a0 = some ⟨gq, 0, none⟩ := by injection hvq
                  subst ea
                  obtain ⟨x, hx⟩ : ∃ x, nw[j] = x := ⟨_, rfl⟩
                  have HFl : Hid (∀ t v, (fltCells x)[t]? = some v → (fltRow nw)[j * 6 + t]? = some v) := Lib.hid (fun t v hv => fltRow_at nw j hlt t v (by rw [hx]; exact hv))
                  have hxm : x ∈ nw := by rw [← hx]; exact List.getElem_mem hlt
                  have HXr := Lib.hid (HRg.out x hxm)
                  have HXm := Lib.hid (mask_rng (HGn.out x hxm))
                  have HSt : Hid ((nw.take (j + 1)).foldl happenR E = happenR ((nw.take j).foldl happenR E) x) := by
                    show _ = _
                    rw [List.take_succ_eq_append_getElem hlt, List.foldl_append, hx]
                    rfl
                  have hfi := fold_inv (nw.take j) HI.out
                  have HFi : Hid (DvInv d.pages.length 128 ((nw.take j).foldl happenR E)) := Lib.hid ⟨hfi.num, hfi.all, hfi.asc, by have h1 := hfi.few; have h2 := HNn.out; rw [List.length_take] at h1; omega⟩
                  have HLt := Lib.hid hlt
                  clear ho hvq hBq hgq hq1 hq2 hq3 hq4 hxm hx hlt hfi
                  have HQn : Hid (∀ au cu wz, Hp w [.ob (w.heap.size) 27 (dvCells (.slice pa d.pages.length pc) d (.slice ua d.unread.length uc) (.slice fa d.faults.length fc)), .ob B1 27 (dvCells nilS dvNil nilS nilS), .sl pv 9 1 ((happenR ((nw.take j).foldl happenR E) x).pages.length) (strRow (happenR ((nw.take j).foldl happenR E) x).pages), .sl ((.slice au (happenR ((nw.take j).foldl happenR E) x).unread.length cu)) 3 1 ((happenR ((nw.take j).foldl happenR E) x).unread.length) (intRow (happenR ((nw.take j).foldl happenR E) x).unread), .ob B2 27 (dvCells pv (happenR ((nw.take j).foldl happenR E) x) (.slice au (happenR ((nw.take j).foldl happenR E) x).unread.length cu) (.slice af lt.length cf)), .sl ((.slice (some ⟨gq, 0, none⟩) nw.length c0)) 29 6 (nw.length) (fltRow nw), .sl ((.slice af lt.length cf)) 29 6 (lt.length) (fltRow lt)] wz → Hp w [.ob (w.heap.size) 27 (dvCells (.slice pa d.pages.length pc) d (.slice ua d.unread.length uc) (.slice fa d.faults.length fc)), .ob B1 27 (dvCells nilS dvNil nilS nilS), .sl pv 9 1 (((nw.take (j + 1)).foldl happenR E).pages.length) (strRow ((nw.take (j + 1)).foldl happenR E).pages), .sl ((.slice au ((nw.take (j + 1)).foldl happenR E).unread.length cu)) 3 1 (((nw.take (j + 1)).foldl happenR E).unread.length) (intRow ((nw.take (j + 1)).foldl happenR E).unread), .ob B2 27 (dvCells pv ((nw.take (j + 1)).foldl happenR E) (.slice au ((nw.take (j + 1)).foldl happenR E).unread.length cu) (.slice af lt.length cf)), .sl ((.slice (some ⟨gq, 0, none⟩) nw.length c0)) 29 6 (nw.length) (fltRow nw), .sl ((.slice af lt.length cf)) 29 6 (lt.length) (fltRow lt)] wz) := Lib.hid (fun au cu wz h => by rw [HSt.out]; exact h)
                  clear HSt
                  generalize (nw.take j).foldl happenR E = F at *
                  go_upto_region 37 with (first | ((with_reducible refine wpList_load_at 29 (.tmp 125) gq ((j * 6)) (fltCells x) HUF.out ?_ ?_ ?_ ?_ ?_); (exact rfl); (exact own_range ((HQ.out).own 5 rfl) rfl (j * 6) (fltCells x) HFl.out); (exact rfl); (exact info_flt); simp only [Act.put, List.setIfInBounds_toArray, List.set_cons_zero, List.set_cons_succ]) | ((with_reducible refine wpList_alloc_ob 29 (fltCells fltNil) ?_ ?_); (exact alloc_flt); simp only [Act.put, List.setIfInBounds_toArray, List.set_cons_zero, List.set_cons_succ]) | ((with_reducible refine wpList_store_ob 29 (.tmp 15) (wr.heap.size) (fltCells x) (fltCells fltNil) 29 ?_ ?_ ?_ ?_ ?_ ?_ ?_); (exact rfl); (exact rfl); (exact ((HQ.out).put 29 (fltCells fltNil)).get 7 rfl); (exact info_flt); (exact rfl); (exact (oneCell_flt _)); skip))
                  have HS161 : Hid (Hp w [.ob (w.heap.size) 27 (dvCells (.slice pa d.pages.length pc) d (.slice ua d.unread.length uc) (.slice fa d.faults.length fc)), .ob B1 27 (dvCells nilS dvNil nilS nilS), .sl pv 9 1 (F.pages.length) (strRow F.pages), .sl ((.slice au F.unread.length cu)) 3 1 (F.unread.length) (intRow F.unread), .ob B2 27 (dvCells pv F (.slice au F.unread.length cu) (.slice af lt.length cf)), .sl ((.slice (some ⟨gq, 0, none⟩) nw.length c0)) 29 6 (nw.length) (fltRow nw), .sl ((.slice af lt.length cf)) 29 6 (lt.length) (fltRow lt), .ob (wr.heap.size) 29 (fltCells x)] ((wr.alloc (.cells (fltCells fltNil).toArray 29)).setRow (wr.heap.size) (fltCells x).toArray)) := ((HQ.out).put 29 (fltCells fltNil)).row 7 rfl (fltCells x)
                  clear HQ
                  generalize ((wr.alloc (.cells (fltCells fltNil).toArray 29)).setRow (wr.heap.size) (fltCells x).toArray) = w161 at *
                  generalize wr.heap.size = B6 at *
                  clear HFl
                  obtain ⟨kd, at_, pg, tg, by_, ms⟩ := x
                  have e0 : w161.cell? ⟨B6, 0, none⟩ = some (.int .i64 kd) := (HS161.out).at 7 rfl 0 rfl
                  by_cases k6 : kd = 6
                  · subst k6
                    have b3 := (HS161.out).at 4 rfl 3 rfl
                    have f3 := (HS161.out).frozen 4 rfl 3
                    have HS6 := Lib.hid ((HS161.out).set 4 rfl 3 (.bool true))
                    clear HS161
                    go_wp2_with fail
                    have HT6 : Hid (Hp w [.ob (w.heap.size) 27 (dvCells (.slice pa d.pages.length pc) d (.slice ua d.unread.length uc) (.slice fa d.faults.length fc)), .ob B1 27 (dvCells nilS dvNil nilS nilS), .sl pv 9 1 ((⟨F.pages, F.writes, F.unread, true, F.faults⟩ : Dv).pages.length) (strRow (⟨F.pages, F.writes, F.unread, true, F.faults⟩ : Dv).pages), .sl ((.slice au F.unread.length cu)) 3 1 ((⟨F.pages, F.writes, F.unread, true, F.faults⟩ : Dv).unread.length) (intRow (⟨F.pages, F.writes, F.unread, true, F.faults⟩ : Dv).unread), .ob B2 27 (dvCells pv (⟨F.pages, F.writes, F.unread, true, F.faults⟩ : Dv) (.slice au F.unread.length cu) (.slice af lt.length cf)), .sl ((.slice (some ⟨gq, 0, none⟩) nw.length c0)) 29 6 (nw.length) (fltRow nw), .sl ((.slice af lt.length cf)) 29 6 (lt.length) (fltRow lt)] _) := HS6.out.pull [0, 1, 2, 3, 4, 5, 6] rfl (pull_nd HS6.out.nd [0, 1, 2, 3, 4, 5, 6] rfl (by decide))
                    have HH : happenR F ⟨6, at_, pg, tg, by_, ms⟩ = ⟨F.pages, F.writes, F.unread, true, F.faults⟩ := rfl
                    have hfin := HQn.out au cu
                    rw [HH] at hfin
                    go_roundw
                    case rel => exact ⟨au, cu, j + 1, by go_num, HLt.out, hfin _ (HT6.out)⟩
                    case measure => simp [intOf]; have := HLt.out; omega
                  by_cases k5 : kd = 5
                  · subst k5
                    obtain ⟨Ru, hrd, hin, _⟩ := own_reads ((HS161.out).own 3 rfl)
                    have HWt := Lib.hid (with_any F.unread pg _ Ru w161 hrd hin (by have := HFi.out.few; omega))
                    clear hrd hin
                    have b2 := (HS161.out).at 4 rfl 2 rfl
                    have e2 := (HS161.out).at 7 rfl 2 rfl
                    go_wp2_with fail
                    refine HWt.out.mono ?_
                    rintro e w9 ⟨u9, rfl, hb, ho⟩
                    obtain ⟨au9, cu9, rfl⟩ := own_slice ho
                    have HS9 := Lib.hid ((HS161.out).addown hb ho)
                    clear b2 e2 e0 hb ho HWt HS161
                    have b2 := HS9.out.at 4 rfl 2 rfl
                    have f2 := HS9.out.frozen 4 rfl 2
                    have HS10 := Lib.hid (HS9.out.set 4 rfl 2 (.slice au9 (withR pg F.unread).length cu9))
                    clear HS9
                    go_wp2_with fail
                    have HT6 : Hid (Hp w [.ob (w.heap.size) 27 (dvCells (.slice pa d.pages.length pc) d (.slice ua d.unread.length uc) (.slice fa d.faults.length fc)), .ob B1 27 (dvCells nilS dvNil nilS nilS), .sl pv 9 1 ((⟨F.pages, F.writes, withR pg F.unread, F.dead, F.faults⟩ : Dv).pages.length) (strRow (⟨F.pages, F.writes, withR pg F.unread, F.dead, F.faults⟩ : Dv).pages), .sl ((.slice au9 (withR pg F.unread).length cu9)) 3 1 ((⟨F.pages, F.writes, withR pg F.unread, F.dead, F.faults⟩ : Dv).unread.length) (intRow (⟨F.pages, F.writes, withR pg F.unread, F.dead, F.faults⟩ : Dv).unread), .ob B2 27 (dvCells pv (⟨F.pages, F.writes, withR pg F.unread, F.dead, F.faults⟩ : Dv) (.slice au9 (withR pg F.unread).length cu9) (.slice af lt.length cf)), .sl ((.slice (some ⟨gq, 0, none⟩) nw.length c0)) 29 6 (nw.length) (fltRow nw), .sl ((.slice af lt.length cf)) 29 6 (lt.length) (fltRow lt)] _) := HS10.out.pull [0, 1, 2, 8, 4, 5, 6] rfl (pull_nd HS10.out.nd [0, 1, 2, 8, 4, 5, 6] rfl (by decide))
                    have HH : happenR F ⟨5, at_, pg, tg, by_, ms⟩ = (⟨F.pages, F.writes, withR pg F.unread, F.dead, F.faults⟩ : Dv) := rfl
                    have hfin := HQn.out au9 cu9
                    rw [HH] at hfin
                    go_roundw
                    case rel => exact ⟨au9, cu9, j + 1, by go_num, HLt.out, hfin _ (HT6.out)⟩
                    case measure => simp [intOf]; have := HLt.out; omega
                  by_cases k4 : kd = 4
                  · subst k4
                    obtain ⟨kp, rfl⟩ := Int.eq_ofNat_of_zero_le (show 0 ≤ pg from HXr.out.2.2.1)
                    obtain ⟨kb, rfl⟩ := Int.eq_ofNat_of_zero_le (show 0 ≤ by_ from HXr.out.2.1.1)
                    have hkp : kp < F.pages.length := by rw [HFi.out.num]; have := HXr.out.2.2.2; simp only at this; omega
                    have hkb : kb < 256 := by have := HXr.out.2.1.2; simp only at this; omega
                    obtain ⟨m, hm⟩ : ∃ m : UInt8, ms = (m.toNat : Int) := ⟨UInt8.ofNat ms.toNat, by have := HXm.out; simp only at this; rw [UInt8.toNat_ofNat']; omega⟩
                    subst hm
                    have hpo := (HS161.out).own 2 rfl
                    rcases hpo.2 with ⟨_, h0⟩ | ⟨g, cap, cur, rfl, hB, hg, h1, h2, h3, h4⟩
                    · omega
                    obtain ⟨y, hy⟩ : ∃ y, F.pages[kp] = y := ⟨_, rfl⟩
                    have hys : y.size = 256 := by rw [← hy]; exact HFi.out.all _ (List.getElem_mem hkp)
                    have hjl : kb < y.data.toList.length := by rw [ba_size]; omega
                    have HHap : Hid (happenR F ⟨4, at_, kp, tg, kb, m.toNat⟩ = ⟨F.pages.set kp (rotR y kb m.toNat), F.writes, F.unread, F.dead, F.faults⟩) := by
                      show _ = _
                      unfold happenR
                      rw [if_pos rfl]
                      simp only [Int.toNat_natCast]
                      rw [modify_set _ _ _ hkp, hy]
                    have HKp := Lib.hid hkp
                    have HPat : Hid ((strRow F.pages)[kp]? = some (.string y)) := by show _ = _; rw [strRow_at F.pages kp hkp, hy]
                    obtain ⟨w2, cap2, hconv, hc2, hb2, hby⟩ := text_by w161 y
                    rw [hys] at hconv
                    obtain ⟨z, hz⟩ : ∃ z : UInt8, y.data.toList[kb] ^^^ m = z := ⟨_, rfl⟩
                    have hxor := xor_b (y.data.toList[kb]) m
                    rw [hz] at hxor
                    have HRot : Hid ((⟨(y.data.toList.set kb z).toArray⟩ : ByteArray) = rotR y kb m.toNat) := by show _ = _; rw [← hz]; exact rotR_list y kb m hjl
                    have hcj := hby.drew.cell kb hjl
                    have hfj := hby.drew.frozen kb hjl
                    have HBy3 : Hid (ByR (w2.setCell ⟨w161.heap.size, kb, none⟩ (.int .u8 (z.toNat : Int))).drew w161.heap.size (y.data.toList.set kb z)) := (hby.set kb hjl z).drew
                    have hcv2 := HBy3.out.conv cap2
                    rw [List.length_set, ba_size, hys, HRot.out] at hcv2
                    obtain ⟨zz, hzz⟩ : ∃ zz, rotR y kb m.toNat = zz := ⟨_, rfl⟩
                    rw [hzz] at hcv2
                    have HZ1 := Lib.hid hzz
                    have HS2 := Lib.hid ((HS161.out).calls hb2)
                    have HS3 := Lib.hid (((HS161.out).calls (hb2.setCell (p := ⟨w161.heap.size, kb, none⟩) (Nat.le_refl _) (.int .u8 (z.toNat : Int)))).drew)
                    clear hb2 hby hc2 hz hzz
                    have a0 := (HS161.out).at 4 rfl 0 rfl
                    have ap := (HS161.out).at 7 rfl 2 rfl
                    have ac := ((HS161.out).slcell 2 rfl kp HPat.out).1
                    have e4 := HS2.out.drew.at 7 rfl 4 rfl
                    have e5 := HS2.out.drew.at 7 rfl 5 rfl
                    have g0 := HS3.out.at 4 rfl 0 rfl
                    have g2 := HS3.out.at 7 rfl 2 rfl
                    have gc := (HS3.out.slcell 2 rfl kp HPat.out).1
                    have gf := (HS3.out.slcell 2 rfl kp HPat.out).2
                    generalize hyj : (y.data.toList[kb].toNat : Int) = yj at *
                    generalize hmi : (m.toNat : Int) = mi at *
                    generalize (z.toNat : Int) = zi at *
                    have hk0 : (0 : Int) ≤ (kp : Int) := by omega
                    have hkn : (kp : Int) < (F.pages.length : Int) := by omega
                    have hb0 : (0 : Int) ≤ (kb : Int) := by omega
                    have hbn : (kb : Int) < 256 := by omega
                    clear hpo hB hg h1 h2 h3 h4 hkp hy hyj hjl hkb hys
                    go_upto_region 40 with (fail)
                    clear a0 ap ac
                    go_region
                    clear hcj hfj e4 e5
                    go_wp2_with fail
                    have h4 := (HS3.out.slset 2 rfl kp HKp.out (.string zz))
                    rw [strRow_set] at h4
                    have HT6 : Hid (Hp w [.ob (w.heap.size) 27 (dvCells (.slice pa d.pages.length pc) d (.slice ua d.unread.length uc) (.slice fa d.faults.length fc)), .ob B1 27 (dvCells nilS dvNil nilS nilS), .sl ((.slice (some ⟨g, 0, none⟩) F.pages.length cap)) 9 1 ((⟨F.pages.set kp zz, F.writes, F.unread, F.dead, F.faults⟩ : Dv).pages.length) (strRow (⟨F.pages.set kp zz, F.writes, F.unread, F.dead, F.faults⟩ : Dv).pages), .sl ((.slice au F.unread.length cu)) 3 1 ((⟨F.pages.set kp zz, F.writes, F.unread, F.dead, F.faults⟩ : Dv).unread.length) (intRow (⟨F.pages.set kp zz, F.writes, F.unread, F.dead, F.faults⟩ : Dv).unread), .ob B2 27 (dvCells (.slice (some ⟨g, 0, none⟩) F.pages.length cap) (⟨F.pages.set kp zz, F.writes, F.unread, F.dead, F.faults⟩ : Dv) (.slice au F.unread.length cu) (.slice af lt.length cf)), .sl ((.slice (some ⟨gq, 0, none⟩) nw.length c0)) 29 6 (nw.length) (fltRow nw), .sl ((.slice af lt.length cf)) 29 6 (lt.length) (fltRow lt)] _) := Lib.hid (by
                      have h5 : Hp w [.ob (w.heap.size) 27 (dvCells (.slice pa d.pages.length pc) d (.slice ua d.unread.length uc) (.slice fa d.faults.length fc)), .ob B1 27 (dvCells nilS dvNil nilS nilS), .sl ((.slice (some ⟨g, 0, none⟩) F.pages.length cap)) 9 1 (F.pages.length) (strRow (⟨F.pages.set kp zz, F.writes, F.unread, F.dead, F.faults⟩ : Dv).pages), .sl ((.slice au F.unread.length cu)) 3 1 ((⟨F.pages.set kp zz, F.writes, F.unread, F.dead, F.faults⟩ : Dv).unread.length) (intRow (⟨F.pages.set kp zz, F.writes, F.unread, F.dead, F.faults⟩ : Dv).unread), .ob B2 27 (dvCells (.slice (some ⟨g, 0, none⟩) F.pages.length cap) (⟨F.pages.set kp zz, F.writes, F.unread, F.dead, F.faults⟩ : Dv) (.slice au F.unread.length cu) (.slice af lt.length cf)), .sl ((.slice (some ⟨gq, 0, none⟩) nw.length c0)) 29 6 (nw.length) (fltRow nw), .sl ((.slice af lt.length cf)) 29 6 (lt.length) (fltRow lt)] _ := h4.pull [0, 1, 2, 3, 4, 5, 6] rfl (pull_nd h4.nd [0, 1, 2, 3, 4, 5, 6] rfl (by decide))
                      show Hp w [.ob (w.heap.size) 27 (dvCells (.slice pa d.pages.length pc) d (.slice ua d.unread.length uc) (.slice fa d.faults.length fc)), .ob B1 27 (dvCells nilS dvNil nilS nilS), .sl ((.slice (some ⟨g, 0, none⟩) F.pages.length cap)) 9 1 ((⟨F.pages.set kp zz, F.writes, F.unread, F.dead, F.faults⟩ : Dv).pages.length) (strRow (⟨F.pages.set kp zz, F.writes, F.unread, F.dead, F.faults⟩ : Dv).pages), .sl ((.slice au F.unread.length cu)) 3 1 ((⟨F.pages.set kp zz, F.writes, F.unread, F.dead, F.faults⟩ : Dv).unread.length) (intRow (⟨F.pages.set kp zz, F.writes, F.unread, F.dead, F.faults⟩ : Dv).unread), .ob B2 27 (dvCells (.slice (some ⟨g, 0, none⟩) F.pages.length cap) (⟨F.pages.set kp zz, F.writes, F.unread, F.dead, F.faults⟩ : Dv) (.slice au F.unread.length cu) (.slice af lt.length cf)), .sl ((.slice (some ⟨gq, 0, none⟩) nw.length c0)) 29 6 (nw.length) (fltRow nw), .sl ((.slice af lt.length cf)) 29 6 (lt.length) (fltRow lt)] _
                      generalize Value.slice (some ⟨g, 0, none⟩) F.pages.length cap = pv2 at h5 ⊢
                      rw [show F.pages.length = (F.pages.set kp zz).length from (List.length_set ..).symm] at h5
                      exact h5)
                    have HHz : happenR F ⟨4, at_, kp, tg, kb, mi⟩ = ⟨F.pages.set kp zz, F.writes, F.unread, F.dead, F.faults⟩ := by rw [HHap.out, HZ1.out]
                    have hfin := HQn.out au cu
                    rw [HHz] at hfin
                    go_roundw
                    case rel => exact ⟨au, cu, j + 1, by go_num, HLt.out, hfin _ HT6.out⟩
                    case measure => simp [intOf]; have := HLt.out; omega
                  have q4 : (kd == 4) = false := by rw [beq_eq_false_iff_ne]; exact k4
                  have q5 : (kd == 5) = false := by rw [beq_eq_false_iff_ne]; exact k5
                  have q6 : (kd == 6) = false := by rw [beq_eq_false_iff_ne]; exact k6
                  have HH : happenR F ⟨kd, at_, pg, tg, by_, ms⟩ = F := by unfold happenR; rw [if_neg k4, if_neg k5, if_neg k6]
                  have hfin := HQn.out au cu
                  rw [HH] at hfin
                  clear k4 k5 k6 HH
                  go_wp2_with fail
                  have HT6 : Hid (Hp w [.ob (w.heap.size) 27 (dvCells (.slice pa d.pages.length pc) d (.slice ua d.unread.length uc) (.slice fa d.faults.length fc)), .ob B1 27 (dvCells nilS dvNil nilS nilS), .sl pv 9 1 (F.pages.length) (strRow F.pages), .sl ((.slice au F.unread.length cu)) 3 1 (F.unread.length) (intRow F.unread), .ob B2 27 (dvCells pv F (.slice au F.unread.length cu) (.slice af lt.length cf)), .sl ((.slice (some ⟨gq, 0, none⟩) nw.length c0)) 29 6 (nw.length) (fltRow nw), .sl ((.slice af lt.length cf)) 29 6 (lt.length) (fltRow lt)] _) := (HS161.out).pull [0, 1, 2, 3, 4, 5, 6] rfl (pull_nd (HS161.out).nd [0, 1, 2, 3, 4, 5, 6] rfl (by decide))
                  go_roundw
                  case rel => exact ⟨au, cu, j + 1, by go_num, HLt.out, hfin _ HT6.out⟩
                  case measure => simp [intOf]; have := HLt.out; omega
end Go.Proofs.Ythcjkbhkidijoaa
