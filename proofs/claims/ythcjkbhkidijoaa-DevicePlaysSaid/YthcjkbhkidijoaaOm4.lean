/- texts of a claim, one after the other: the reference's Write, the program's Tear, the program's blanks, the program's New, the program's Replace, devices that are valid, and what the functions of chapter 4 make of them, the choices of a law's walk, as a thing, the choices of the drawing package: how many are left, the choices of the drawing package: Int, the choices of the drawing package, with how many are left: Int, Fault -/
import Derived.Test.YthcjkbhkidijoaaOm3
import Derived.Test.YthcjkbhkidijoaaOm1
import Derived.Test.YthcjkbhkidijoaaOm2
import Derived.Deep.CutBlock
/- the reference's Write -/
namespace Go.Proofs.Ythcjkbhkidijoaa
open Go.RowKit
set_option maxRecDepth 20000
set_option linter.unusedSimpArgs false
set_option linter.unusedVariables false

/-- what loop 2 has of the device: the write is done, or all that is left decides -/
def LandSt (D2 : Dv) (k : Nat) (s : ByteArray) (l : List Flt) (i : Nat) : Bool → Dv → Prop
  | true, dd => dd = landR D2 k s l
  | false, dd => dd = D2 ∧ landR D2 k s l = landR D2 k s (l.drop i)
def LandEnd (D2 : Dv) (k : Nat) (s : ByteArray) (l : List Flt) : Bool → Dv → Prop
  | true, dd => dd = landR D2 k s l
  | false, dd => dd = D2 ∧ landR D2 k s l = placeR D2 k s 256
theorem LandSt.start (D2 : Dv) (k : Nat) (s : ByteArray) (l : List Flt) : LandSt D2 k s l 0 false D2 := ⟨rfl, rfl⟩
theorem LandSt.is {D2 dd : Dv} {k : Nat} {s : ByteArray} {l : List Flt} {i : Nat} (h : LandSt D2 k s l i false dd) : dd = D2 := h.1
theorem LandSt.done {D2 dd : Dv} {k : Nat} {s : ByteArray} {l : List Flt} {i : Nat} (h : LandSt D2 k s l i true dd) : LandEnd D2 k s l true dd := h
theorem LandSt.last {D2 dd : Dv} {k : Nat} {s : ByteArray} {l : List Flt} {i : Nat} {dn : Bool} (hi : l.length ≤ i) (h : LandSt D2 k s l i dn dd) : LandEnd D2 k s l dn dd := by
  cases dn
  · refine ⟨h.1, ?_⟩
    rw [h.2, List.drop_eq_nil_of_le hi]
    rfl
  · exact h
theorem drop_at {l : List Flt} {i : Nat} {x : Flt} (h : l[i]? = some x) : l.drop i = x :: l.drop (i + 1) := by
  obtain ⟨hi, hx⟩ := List.getElem?_eq_some_iff.1 h
  rw [List.drop_eq_getElem_cons hi, hx]
theorem LandSt.lost {D2 dd : Dv} {k : Nat} {s : ByteArray} {l : List Flt} {i : Nat} {x : Flt} (hx : l[i]? = some x) (h1 : x.kind = 1) (h : LandSt D2 k s l i false dd) : LandSt D2 k s l (i + 1) true dd := by
  show dd = _
  rw [h.1, h.2, drop_at hx, landR, if_pos h1]
theorem LandSt.none {D2 dd : Dv} {k : Nat} {s : ByteArray} {l : List Flt} {i : Nat} {x : Flt} (hx : l[i]? = some x) (h1 : ¬ x.kind = 1) (h2 : ¬ x.kind = 2) (h3 : ¬ x.kind = 3) (h : LandSt D2 k s l i false dd) : LandSt D2 k s l (i + 1) false dd := by
  refine ⟨h.1, ?_⟩
  rw [h.2, drop_at hx, landR, if_neg h1, if_neg h2, if_neg h3]
theorem LandSt.astray {D2 dd : Dv} {k : Nat} {s : ByteArray} {l : List Flt} {i : Nat} {x : Flt} (hx : l[i]? = some x) (h2 : x.kind = 2) (h : LandSt D2 k s l i false dd) : LandSt D2 k s l (i + 1) true (placeR dd x.target s 256) := by
  show _ = _
  rw [h.1, h.2, drop_at hx, landR, if_neg (by rw [h2]; decide), if_pos h2]
theorem LandSt.torn {D2 dd : Dv} {k : Nat} {s : ByteArray} {l : List Flt} {i : Nat} {x : Flt} (hx : l[i]? = some x) (h3 : x.kind = 3) (h : LandSt D2 k s l i false dd) : LandSt D2 k s l (i + 1) true (placeR dd k s x.byte.toNat) := by
  show _ = _
  rw [h.1, h.2, drop_at hx, landR, if_neg (by rw [h3]; decide), if_neg (by rw [h3]; decide), if_pos h3]
theorem wp_load_ob {o : Oper} {a : Act} {w : World} {K : Act → World → Prop} {Q : Exit → Act → World → Prop} (t : TypeId) (x : Operand) (b : Nat) (cs : List Value) (t0 : TypeId) {ds : TypeDesc} (hu : Try.prog.underlying t = some ds) (ho : o.op = .load t x) (hx : a.eval x = .pointer (some ⟨b, 0, none⟩)) (hg : w.heap[b]? = some (.cells cs.toArray t0 (0, 0)))
    (hd : ds.isRow = true) (hi : (Try.prog.info? t).map (·.size) = some cs.length) (h : K (a.put o.dst (.agg cs.toArray)) w) : o.wp Try.prog a w K Q :=
  wp_load_row t x ho b hx t0 cs.toArray (0, 0) ds hg hu (by cases ds <;> simp_all) (by rw [List.size_toArray]; exact hi) h
set_option maxHeartbeats 16000000 in
theorem rwrite_any {p u f : Value} {d : Dv} {R : List Rng} (page : Int) (s : ByteArray) (w : World) (h : DvRd p u f d R) (hR : RdIn w R) (hg : GoodDv d) (hss : s.size ≤ maxLen) (hp : d.pages.length ≤ 1000) (hf : d.faults.length ≤ 1000) :
    Calls Try.prog 21 #[.agg (dvCells p d u f).toArray, .int .i64 page, .string s] w (DvPost w R (writeR d page s)) := by
  have HV : Hid (∀ W, Below w.heap.size w W → Calls Try.prog 47 #[.agg (dvCells p d u f).toArray, .int .i64 page] W fun e w' => e = .returned (.int .i64 (usableR d page)) ∧ Below W.heap.size W w') := fun W hb => rusable_any page W h (hR.below hb) hg
  have HCp : Hid (∀ W, Below w.heap.size w W → Calls Try.prog 36 #[.agg (dvCells p d u f).toArray] W fun e w' => ∃ v, e = .returned v ∧ OwnDv W w' v d) := fun W hb => copy_any W h (hR.below hb) hp hg.unread hf
  have HGf : Hid (∀ x ∈ d.faults, GoodFlt x) := hg.faults
  have HLf := Lib.hid hf
  obtain ⟨fs, hud⟩ := under_dv
  have HUD := Lib.hid hud
  obtain ⟨fs2, huf⟩ := under_flt
  have HUF := Lib.hid huf
  clear hud huf
  obtain ⟨pa, pc, rfl, hp1, hp3, hP2⟩ := h.pages.open hR
  obtain ⟨ua, uc, rfl, hu1, hu3, hU2⟩ := h.unread.open hR
  obtain ⟨fa, fc, rfl, hf1, hf3, hF2⟩ := h.faults.open hR
  have HFat := hF2
  clear h hR hg hP2 hU2 hF2 hf hp
  have h1 := ((Hp.start w).put 27 (dvCells (.slice pa d.pages.length pc) d (.slice ua d.unread.length uc) (.slice fa d.faults.length fc))).put 27 (dvCells nilS dvNil nilS nilS)
  simp only [World.size_alloc, List.nil_append, List.cons_append] at h1
  have HS0 : Hid (Hp w [.ob w.heap.size 27 (dvCells (.slice pa d.pages.length pc) d (.slice ua d.unread.length uc) (.slice fa d.faults.length fc)), .ob (w.heap.size + 1) 27 (dvCells nilS dvNil nilS nilS)] ((w.alloc (.cells (dvCells (.slice pa d.pages.length pc) d (.slice ua d.unread.length uc) (.slice fa d.faults.length fc)).toArray 27)).alloc (.cells #[.slice none 0 0, .int .i64 0, .slice none 0 0, .bool false, .slice none 0 0] 27))) := h1
  clear h1 hp1 hp3 hu1 hu3 hf1 hf3
  have hsm : (s.size : Int) ≤ 9223372036854775807 := by unfold maxLen at hss; omega
  clear hss
  go_enter Try.func21, Try.ntmps21
  go_wp2_with (first | ((with_reducible refine wpList_load_ob 27 (.tmp 3) (w.heap.size) (dvCells (.slice pa d.pages.length pc) d (.slice ua d.unread.length uc) (.slice fa d.faults.length fc)) 27 HUD.out ?_ ?_ ?_ ?_ ?_); (exact rfl); (exact (HS0.out).get 0 rfl); (exact rfl); (exact info_dv); simp only [Act.put, List.setIfInBounds_toArray, List.set_cons_zero, List.set_cons_succ]))
  refine (HV.out _ (HS0.out).old).mono ?_
  rintro e w3 ⟨rfl, hb⟩
  have HS2 : Hid (Hp w [.ob (w.heap.size) 27 (dvCells (.slice pa d.pages.length pc) d (.slice ua d.unread.length uc) (.slice fa d.faults.length fc)), .ob ((w.heap.size + 1)) 27 (dvCells nilS dvNil nilS nilS)] w3) := (HS0.out).calls hb
  clear hb
  clear HS0
  generalize (w.heap.size + 1) = B1 at *
  clear HV
  by_cases hv : usableR d page = 0
  case neg =>
    have HX := Lib.hid hv
    have hq : (usableR d page != 0) = true := by rw [bne_iff_ne]; exact hv
    clear hv
    go_wp2_with (first | ((with_reducible refine wpList_build_v (d := some 22) 27 (.agg (dvCells nilS dvNil nilS nilS).toArray) ?_ ?_); (intro W; simp only [List.map_toArray, List.map_cons, List.map_nil]; exact build_dv0 W); simp only [Act.put, List.setIfInBounds_toArray, List.set_cons_zero, List.set_cons_succ]) | ((with_reducible refine wpList_store_ob 27 (.tmp 6) B1 (dvCells nilS dvNil nilS nilS) (dvCells nilS dvNil nilS nilS) 27 ?_ ?_ ?_ ?_ ?_ ?_ ?_); (exact rfl); (exact rfl); (exact (HS2.out).get 1 rfl); (exact info_dv); (exact rfl); (exact (oneCell_dv _ _ _ _ _ _ _ _ _ _)); skip))
    have HS3 : Hid (Hp w [.ob (w.heap.size) 27 (dvCells (.slice pa d.pages.length pc) d (.slice ua d.unread.length uc) (.slice fa d.faults.length fc)), .ob B1 27 (dvCells nilS dvNil nilS nilS)] (w3.setRow B1 (dvCells nilS dvNil nilS nilS).toArray)) := (HS2.out).row 1 rfl (dvCells nilS dvNil nilS nilS)
    clear HS2
    generalize (w3.setRow B1 (dvCells nilS dvNil nilS nilS).toArray) = w4 at *
    refine bodyPost_ret (results_ob_tmp Try.results21 _ _ B1 (dvCells nilS dvNil nilS nilS) 27 _ rfl (HS3.out.get 1 rfl) HUD.out rfl info_dv) rfl ?_
    exact DvPost.none (by unfold writeR; rw [if_pos HX.out]) HS3.out.old
  case pos =>
    have HX : Hid (¬ usableR d page ≠ 0) := fun h => h hv
    have hq : (usableR d page != 0) = false := by rw [hv]; rfl
    obtain ⟨hok, hdd, g0, g1⟩ := usable_ok hv
    have HOk := Lib.hid (ok_inv hok)
    obtain ⟨k, rfl⟩ := Int.eq_ofNat_of_zero_le g0
    have HKn : Hid (k < d.pages.length) := by show _ < _; omega
    clear hv hok hdd g0 g1
    have b1 : w3.cell? ⟨w.heap.size, 1, none⟩ = some (.int .i64 d.writes) := (HS2.out).at 0 rfl 1 rfl
    by_cases hz : s.size = 256
    case neg =>
      have HY := Lib.hid hz
      have hqs : ((s.size : Int) != 256) = true := by rw [bne_iff_ne]; omega
      clear hz
      go_wp2_with (first | ((with_reducible refine wpList_build_v (d := some 27) 27 (.agg (dvCells nilS dvNil nilS nilS).toArray) ?_ ?_); (intro W; simp only [List.map_toArray, List.map_cons, List.map_nil]; exact build_dv0 W); simp only [Act.put, List.setIfInBounds_toArray, List.set_cons_zero, List.set_cons_succ]) | ((with_reducible refine wpList_store_ob 27 (.tmp 6) B1 (dvCells nilS dvNil nilS nilS) (dvCells nilS dvNil nilS nilS) 27 ?_ ?_ ?_ ?_ ?_ ?_ ?_); (exact rfl); (exact rfl); (exact (HS2.out).get 1 rfl); (exact info_dv); (exact rfl); (exact (oneCell_dv _ _ _ _ _ _ _ _ _ _)); skip))
      have HS3 : Hid (Hp w [.ob (w.heap.size) 27 (dvCells (.slice pa d.pages.length pc) d (.slice ua d.unread.length uc) (.slice fa d.faults.length fc)), .ob B1 27 (dvCells nilS dvNil nilS nilS)] (w3.setRow B1 (dvCells nilS dvNil nilS nilS).toArray)) := (HS2.out).row 1 rfl (dvCells nilS dvNil nilS nilS)
      clear HS2
      generalize (w3.setRow B1 (dvCells nilS dvNil nilS nilS).toArray) = w4 at *
      refine bodyPost_ret (results_ob_tmp Try.results21 _ _ B1 (dvCells nilS dvNil nilS nilS) 27 _ rfl (HS3.out.get 1 rfl) HUD.out rfl info_dv) rfl ?_
      exact DvPost.none (by unfold writeR; rw [if_neg HX.out, if_pos HY.out]) HS3.out.old
    case pos =>
      have HY : Hid (¬ s.size ≠ 256) := fun h => h hz
      have HSz := Lib.hid hz
      have hqs : ((s.size : Int) != 256) = false := by rw [hz]; rfl
      clear hz
      by_cases hl : d.writes = 1099511627776
      case pos =>
        have HZ := Lib.hid hl
        have hql : (d.writes == 1099511627776) = true := by rw [hl]; rfl
        clear hl
        go_wp2_with (first | ((with_reducible refine wpList_build_v (d := some 31) 27 (.agg (dvCells nilS dvNil nilS nilS).toArray) ?_ ?_); (intro W; simp only [List.map_toArray, List.map_cons, List.map_nil]; exact build_dv0 W); simp only [Act.put, List.setIfInBounds_toArray, List.set_cons_zero, List.set_cons_succ]) | ((with_reducible refine wpList_store_ob 27 (.tmp 6) B1 (dvCells nilS dvNil nilS nilS) (dvCells nilS dvNil nilS nilS) 27 ?_ ?_ ?_ ?_ ?_ ?_ ?_); (exact rfl); (exact rfl); (exact (HS2.out).get 1 rfl); (exact info_dv); (exact rfl); (exact (oneCell_dv _ _ _ _ _ _ _ _ _ _)); skip))
        have HS3 : Hid (Hp w [.ob (w.heap.size) 27 (dvCells (.slice pa d.pages.length pc) d (.slice ua d.unread.length uc) (.slice fa d.faults.length fc)), .ob B1 27 (dvCells nilS dvNil nilS nilS)] (w3.setRow B1 (dvCells nilS dvNil nilS nilS).toArray)) := (HS2.out).row 1 rfl (dvCells nilS dvNil nilS nilS)
        clear HS2
        generalize (w3.setRow B1 (dvCells nilS dvNil nilS nilS).toArray) = w4 at *
        refine bodyPost_ret (results_ob_tmp Try.results21 _ _ B1 (dvCells nilS dvNil nilS nilS) 27 _ rfl (HS3.out.get 1 rfl) HUD.out rfl info_dv) rfl ?_
        exact DvPost.none (by unfold writeR; rw [if_neg HX.out, if_neg HY.out, if_pos HZ.out]) HS3.out.old
      case neg =>
        have HZ := Lib.hid hl
        have hql : (d.writes == 1099511627776) = false := by rw [beq_eq_false_iff_ne]; exact hl
        have hwr : IntKind.i64.wrap (d.writes + 1) = d.writes + 1 := by rw [IntKind.wrap_i64]; have := HOk.out.2.2.2; omega
        clear hl
        go_wp2_with (first | ((with_reducible refine wpList_load_ob 27 (.tmp 3) (w.heap.size) (dvCells (.slice pa d.pages.length pc) d (.slice ua d.unread.length uc) (.slice fa d.faults.length fc)) 27 HUD.out ?_ ?_ ?_ ?_ ?_); (exact rfl); (exact (HS2.out).get 0 rfl); (exact rfl); (exact info_dv); simp only [Act.put, List.setIfInBounds_toArray, List.set_cons_zero, List.set_cons_succ]))
        refine (HCp.out _ (HS2.out).old).mono ?_
        rintro e w20 ⟨v, rfl, p', u', f', rfl, hk⟩
        obtain ⟨a1, c1, rfl⟩ := own_slice (hk.own 0 rfl)
        obtain ⟨a2, c2, rfl⟩ := own_slice (hk.own 1 rfl)
        obtain ⟨a3, c3, rfl⟩ := own_slice (hk.own 2 rfl)
        have HS3 : Hid (Hp w [.ob (w.heap.size) 27 (dvCells (.slice pa d.pages.length pc) d (.slice ua d.unread.length uc) (.slice fa d.faults.length fc)), .ob B1 27 (dvCells nilS dvNil nilS nilS), .sl ((.slice a1 d.pages.length c1)) 9 1 (d.pages.length) (strRow d.pages), .sl ((.slice a2 d.unread.length c2)) 3 1 (d.unread.length) (intRow d.unread), .sl ((.slice a3 d.faults.length c3)) 29 6 (d.faults.length) (fltRow d.faults)] w20) := (HS2.out).join hk (three_sl (sl_plain _ _ _ _ _) (sl_plain _ _ _ _ _) (sl_plain _ _ _ _ _))
        clear HS2
        clear HCp b1 hk
        go_upto_region 9 with (first | ((with_reducible refine wpList_alloc_ob 27 (dvCells nilS dvNil nilS nilS) ?_ ?_); (exact alloc_dv); simp only [Act.put, List.setIfInBounds_toArray, List.set_cons_zero, List.set_cons_succ]) | ((with_reducible refine wpList_store_ob 27 (.tmp 9) (w20.heap.size) (dvCells (.slice a1 d.pages.length c1) d (.slice a2 d.unread.length c2) (.slice a3 d.faults.length c3)) (dvCells nilS dvNil nilS nilS) 27 ?_ ?_ ?_ ?_ ?_ ?_ ?_); (exact rfl); (exact rfl); (exact ((HS3.out).put 27 (dvCells nilS dvNil nilS nilS)).get 5 rfl); (exact info_dv); (exact rfl); (exact (oneCell_dv _ _ _ _ _ _ _ _ _ _)); skip))
        have HS4 : Hid (Hp w [.ob (w.heap.size) 27 (dvCells (.slice pa d.pages.length pc) d (.slice ua d.unread.length uc) (.slice fa d.faults.length fc)), .ob B1 27 (dvCells nilS dvNil nilS nilS), .sl ((.slice a1 d.pages.length c1)) 9 1 (d.pages.length) (strRow d.pages), .sl ((.slice a2 d.unread.length c2)) 3 1 (d.unread.length) (intRow d.unread), .sl ((.slice a3 d.faults.length c3)) 29 6 (d.faults.length) (fltRow d.faults), .ob (w20.heap.size) 27 (dvCells (.slice a1 d.pages.length c1) d (.slice a2 d.unread.length c2) (.slice a3 d.faults.length c3))] ((w20.alloc (.cells (dvCells nilS dvNil nilS nilS).toArray 27)).setRow (w20.heap.size) (dvCells (.slice a1 d.pages.length c1) d (.slice a2 d.unread.length c2) (.slice a3 d.faults.length c3)).toArray)) := ((HS3.out).put 27 (dvCells nilS dvNil nilS nilS)).row 5 rfl (dvCells (.slice a1 d.pages.length c1) d (.slice a2 d.unread.length c2) (.slice a3 d.faults.length c3))
        clear HS3
        generalize ((w20.alloc (.cells (dvCells nilS dvNil nilS nilS).toArray 27)).setRow (w20.heap.size) (dvCells (.slice a1 d.pages.length c1) d (.slice a2 d.unread.length c2) (.slice a3 d.faults.length c3)).toArray) = w21 at *
        generalize w20.heap.size = B2 at *
        have o1 := HS4.out.at 5 rfl 1 rfl
        have p1 := HS4.out.frozen 5 rfl 1
        have o4 := HS4.out.at 5 rfl 4 rfl
        have p4 := HS4.out.frozen 5 rfl 4
        have HUX : Hid (Try.prog.underlying 25 = some (.slice 29)) := Try.underlying25
        go_wp2_with fail
        have HS5 : Hid (Hp w [.ob w.heap.size 27 (dvCells (.slice pa d.pages.length pc) d (.slice ua d.unread.length uc) (.slice fa d.faults.length fc)), .ob B1 27 (dvCells nilS dvNil nilS nilS), .sl (.slice a1 d.pages.length c1) 9 1 d.pages.length (strRow d.pages), .sl (.slice a2 d.unread.length c2) 3 1 d.unread.length (intRow d.unread), .ob B2 27 (dvCells (.slice a1 d.pages.length c1) (⟨d.pages, d.writes + 1, d.unread, d.dead, []⟩ : Dv) (.slice a2 d.unread.length c2) (.slice none ((d.faults.take 0).filter fun x => !decide (x.at_ = d.writes + 1)).length 0)), .sl nilS 29 6 ((d.faults.take 0).filter fun x => decide (x.at_ = d.writes + 1)).length (fltRow ((d.faults.take 0).filter fun x => decide (x.at_ = d.writes + 1))), .sl (.slice none ((d.faults.take 0).filter fun x => !decide (x.at_ = d.writes + 1)).length 0) 29 6 ((d.faults.take 0).filter fun x => !decide (x.at_ = d.writes + 1)).length (fltRow ((d.faults.take 0).filter fun x => !decide (x.at_ = d.writes + 1)))] ((w21.setCell ⟨B2, 1, none⟩ (.int .i64 (d.writes + 1))).setCell ⟨B2, 4, none⟩ (.slice none 0 0))) := by
          have h := (HS4.out.set 5 rfl 1 (.int .i64 (d.writes + 1))).set 5 rfl 4 nilS
          have h2 : Hp w [.ob w.heap.size 27 (dvCells (.slice pa d.pages.length pc) d (.slice ua d.unread.length uc) (.slice fa d.faults.length fc)), .ob B1 27 (dvCells nilS dvNil nilS nilS), .sl (.slice a1 d.pages.length c1) 9 1 d.pages.length (strRow d.pages), .sl (.slice a2 d.unread.length c2) 3 1 d.unread.length (intRow d.unread), .ob B2 27 (dvCells (.slice a1 d.pages.length c1) (⟨d.pages, d.writes + 1, d.unread, d.dead, []⟩ : Dv) (.slice a2 d.unread.length c2) nilS)] _ := h.pull [0, 1, 2, 3, 5] rfl (pull_nd h.nd [0, 1, 2, 3, 5] rfl (by decide))
          exact Lib.hid ((h2.nil 29 6).nil 29 6)
        clear o1 p1 o4 p4 HS4
        generalize (w21.setCell ⟨B2, 1, none⟩ (.int .i64 (d.writes + 1))).setCell ⟨B2, 4, none⟩ (.slice none 0 0) = w30 at *
        go_loopw [10, 11] (fun sn si wr => ∃ (v1 : Value) (af : Option Addr) (cf : Nat) (i : Nat), v1 = sn ∧ si = .int .i64 i ∧ i ≤ d.faults.length ∧ Hp w [.ob w.heap.size 27 (dvCells (.slice pa d.pages.length pc) d (.slice ua d.unread.length uc) (.slice fa d.faults.length fc)), .ob B1 27 (dvCells nilS dvNil nilS nilS), .sl (.slice a1 d.pages.length c1) 9 1 d.pages.length (strRow d.pages), .sl (.slice a2 d.unread.length c2) 3 1 d.unread.length (intRow d.unread), .ob B2 27 (dvCells (.slice a1 d.pages.length c1) (⟨d.pages, d.writes + 1, d.unread, d.dead, []⟩ : Dv) (.slice a2 d.unread.length c2) (.slice af ((d.faults.take i).filter fun x => !decide (x.at_ = d.writes + 1)).length cf)), .sl v1 29 6 ((d.faults.take i).filter fun x => decide (x.at_ = d.writes + 1)).length (fltRow ((d.faults.take i).filter fun x => decide (x.at_ = d.writes + 1))), .sl (.slice af ((d.faults.take i).filter fun x => !decide (x.at_ = d.writes + 1)).length cf) 29 6 ((d.faults.take i).filter fun x => !decide (x.at_ = d.writes + 1)).length (fltRow ((d.faults.take i).filter fun x => !decide (x.at_ = d.writes + 1)))] wr) (fun _ si _ => d.faults.length - (intOf si).toNat)
        case atStart => exact ⟨nilS, none, 0, 0, rfl, rfl, Nat.zero_le _, HS5.out⟩
        case round =>
          obtain ⟨v1, af, cf, i, hv, rfl, hi, hs⟩ := hrel
          subst hv
          clear HS5
          have HQ := Lib.hid hs
          clear hs
          have c4 : wr.cell? ⟨w.heap.size, 4, none⟩ = some (.slice fa d.faults.length fc) := HQ.out.at 0 rfl 4 rfl
          have hi0 : (0 : Int) ≤ (i : Int) := by omega
          have him : (i : Int) ≤ 1000 := by have := HLf.out; omega
          by_cases hlt : i < d.faults.length
          · have hii : (i : Int) < (d.faults.length : Int) := by omega
            have HLt := Lib.hid hlt
            obtain ⟨gf, og, rfl, hr⟩ := HFat.out (by omega)
            obtain ⟨x, hx⟩ : ∃ x, d.faults[i] = x := ⟨_, rfl⟩
            have HRow : Hid (∀ W, Below w.heap.size w W → W.rangeAt gf (og + i * 6) (fltCells x)) := Lib.hid (fun W hb j u hu => by rw [Nat.add_assoc]; exact hr W hb (i * 6 + j) u (fltRow_at d.faults i hlt j u (hx.symm ▸ hu)))
            have HTk : Hid (d.faults.take (i + 1) = d.faults.take i ++ [x]) := Lib.hid (hx ▸ List.take_succ_eq_append_getElem hlt)
            clear hr hlt hi hx
            go_upto_region 15 with (fail)
            clear c4
            have c4 : wr.drew.cell? ⟨w.heap.size, 4, none⟩ = some (.slice (some ⟨gf, og, none⟩) d.faults.length fc) := HQ.out.drew.at 0 rfl 4 rfl
            have c1 : wr.drew.cell? ⟨B2, 1, none⟩ = some (.int .i64 (d.writes + 1)) := HQ.out.drew.at 4 rfl 1 rfl
            have ce : wr.drew.cell? ⟨gf, og + i * 6 + 1, none⟩ = some (.int .i64 x.at_) := HRow.out _ HQ.out.drew.old 1 _ rfl
            go_region
            clear c4 c1 ce
            have HQ1 : Hid (Hp w [.ob w.heap.size 27 (dvCells (.slice pa d.pages.length pc) d (.slice ua d.unread.length uc) (.slice (some ⟨gf, og, none⟩) d.faults.length fc)), .ob B1 27 (dvCells nilS dvNil nilS nilS), .sl (.slice a1 d.pages.length c1) 9 1 d.pages.length (strRow d.pages), .sl (.slice a2 d.unread.length c2) 3 1 d.unread.length (intRow d.unread), .ob B2 27 (dvCells (.slice a1 d.pages.length c1) (⟨d.pages, d.writes + 1, d.unread, d.dead, []⟩ : Dv) (.slice a2 d.unread.length c2) (.slice af ((d.faults.take i).filter fun x => !decide (x.at_ = d.writes + 1)).length cf)), .sl v1 29 6 ((d.faults.take i).filter fun x => decide (x.at_ = d.writes + 1)).length (fltRow ((d.faults.take i).filter fun x => decide (x.at_ = d.writes + 1))), .sl (.slice af ((d.faults.take i).filter fun x => !decide (x.at_ = d.writes + 1)).length cf) 29 6 ((d.faults.take i).filter fun x => !decide (x.at_ = d.writes + 1)).length (fltRow ((d.faults.take i).filter fun x => !decide (x.at_ = d.writes + 1)))] wr.drew) := HQ.out.drew
            clear HQ
            generalize wr.drew = w31 at *
            by_cases hat : x.at_ = d.writes + 1
            · have hab : (x.at_ == d.writes + 1) = true := by rw [hat]; simp
              have c4 : w31.cell? ⟨w.heap.size, 4, none⟩ = some (.slice (some ⟨gf, og, none⟩) d.faults.length fc) := HQ1.out.at 0 rfl 4 rfl
              have HAt := Lib.hid hat
              have HNl : Hid (((d.faults.take i).filter fun x => decide (x.at_ = d.writes + 1)).length ≤ 1000) := Lib.hid (Nat.le_trans (List.length_filter_le _ _) (by rw [List.length_take]; have := HLf.out; omega))
              clear hat
              go_wp2_with (first | ((with_reducible refine wpList_load_at 29 (.tmp 59) gf ((og + i * 6)) (fltCells x) HUF.out ?_ ?_ ?_ ?_ ?_); (exact rfl); (exact HRow.out _ (HQ1.out).old); (exact rfl); (exact info_flt); simp only [Act.put, List.setIfInBounds_toArray, List.set_cons_zero, List.set_cons_succ]) | ((with_reducible refine wpList_build_obs 25 1 elem_flt HUX.out [fltCells x] ?_ ?_ ?_ ?_ ?_ ?_); (exact (List.forall_mem_cons.2 ⟨rfl, (fun _ h => absurd h List.not_mem_nil)⟩)); (exact Nat.succ_pos _); (simp only [List.length_cons, List.length_nil]; omega); (exact rfl); (simp only [List.map_toArray, List.map_cons, List.map_nil, List.zipIdx_cons, List.zipIdx_nil]; exact rfl); simp only [Act.put, List.setIfInBounds_toArray, List.set_cons_zero, List.set_cons_succ]) | ((with_reducible refine wpList_append_hp ((HQ1.out).put 29 (([fltCells x] : List (List Value)).flatMap id)) (.tmp 55) (.tmp 61) 25 5 (v := v1) (e := 29) (z := 6) (n := ((d.faults.take i).filter fun x => decide (x.at_ = d.writes + 1)).length) (xs := fltRow ((d.faults.take i).filter fun x => decide (x.at_ = d.writes + 1))) ?_ 7 (b := (w31.heap.size)) (t' := 29) (ys := ([fltCells x] : List (List Value)).flatMap id) ?_ HUX.out elem_flt 1 1 ?_ ?_ ?_ ?_ ?_ ?_); (exact rfl); (exact rfl); (exact rfl); (exact rfl); (exact rfl); (exact (one_flt x)); (exact (by have := HNl.out; omega))))
              intro v41 w41 hs hnil
              have HS42 : Hid (Hp w [.ob (w.heap.size) 27 (dvCells (.slice pa d.pages.length pc) d (.slice ua d.unread.length uc) (.slice (some ⟨gf, og, none⟩) d.faults.length fc)), .ob B1 27 (dvCells nilS dvNil nilS nilS), .sl ((.slice a1 d.pages.length c1)) 9 1 (d.pages.length) (strRow d.pages), .sl ((.slice a2 d.unread.length c2)) 3 1 (d.unread.length) (intRow d.unread), .ob B2 27 (dvCells (.slice a1 d.pages.length c1) (⟨d.pages, d.writes + 1, d.unread, d.dead, []⟩ : Dv) (.slice a2 d.unread.length c2) (.slice af ((d.faults.take i).filter fun x => !decide (x.at_ = d.writes + 1)).length cf)), .sl v41 29 6 (((d.faults.take i).filter fun x => decide (x.at_ = d.writes + 1)).length + 1) ((fltRow ((d.faults.take i).filter fun x => decide (x.at_ = d.writes + 1))) ++ (([fltCells x] : List (List Value)).flatMap id)), .sl ((.slice af ((d.faults.take i).filter fun x => !decide (x.at_ = d.writes + 1)).length cf)) 29 6 (((d.faults.take i).filter fun x => !decide (x.at_ = d.writes + 1)).length) (fltRow ((d.faults.take i).filter fun x => !decide (x.at_ = d.writes + 1))), .ob (w31.heap.size) 29 (([fltCells x] : List (List Value)).flatMap id)] w41) := hs
              clear hs
              clear HQ1
              generalize w31.heap.size = B3 at *
              go_wp2_with fail
              have HS43 : Hid (Hp w [.ob (w.heap.size) 27 (dvCells (.slice pa d.pages.length pc) d (.slice ua d.unread.length uc) (.slice (some ⟨gf, og, none⟩) d.faults.length fc)), .ob B1 27 (dvCells nilS dvNil nilS nilS), .sl ((.slice a1 d.pages.length c1)) 9 1 (d.pages.length) (strRow d.pages), .sl ((.slice a2 d.unread.length c2)) 3 1 (d.unread.length) (intRow d.unread), .ob B2 27 (dvCells (.slice a1 d.pages.length c1) (⟨d.pages, d.writes + 1, d.unread, d.dead, []⟩ : Dv) (.slice a2 d.unread.length c2) (.slice af ((d.faults.take i).filter fun x => !decide (x.at_ = d.writes + 1)).length cf)), .sl v41 29 6 (((d.faults.take i).filter fun x => decide (x.at_ = d.writes + 1)).length + 1) ((fltRow ((d.faults.take i).filter fun x => decide (x.at_ = d.writes + 1))) ++ (([fltCells x] : List (List Value)).flatMap id)), .sl ((.slice af ((d.faults.take i).filter fun x => !decide (x.at_ = d.writes + 1)).length cf)) 29 6 (((d.faults.take i).filter fun x => !decide (x.at_ = d.writes + 1)).length) (fltRow ((d.faults.take i).filter fun x => !decide (x.at_ = d.writes + 1))), .ob B3 29 (([fltCells x] : List (List Value)).flatMap id)] w41) := HS42.out
              clear HS42
              have HS44 : Hid (Hp w [.ob (w.heap.size) 27 (dvCells (.slice pa d.pages.length pc) d (.slice ua d.unread.length uc) (.slice (some ⟨gf, og, none⟩) d.faults.length fc)), .ob B1 27 (dvCells nilS dvNil nilS nilS), .sl ((.slice a1 d.pages.length c1)) 9 1 (d.pages.length) (strRow d.pages), .sl ((.slice a2 d.unread.length c2)) 3 1 (d.unread.length) (intRow d.unread), .ob B2 27 (dvCells (.slice a1 d.pages.length c1) (⟨d.pages, d.writes + 1, d.unread, d.dead, []⟩ : Dv) (.slice a2 d.unread.length c2) (.slice af ((d.faults.take i).filter fun x => !decide (x.at_ = d.writes + 1)).length cf)), .sl v41 29 6 (((d.faults.take i).filter fun x => decide (x.at_ = d.writes + 1)).length + 1) ((fltRow ((d.faults.take i).filter fun x => decide (x.at_ = d.writes + 1))) ++ (([fltCells x] : List (List Value)).flatMap id)), .sl ((.slice af ((d.faults.take i).filter fun x => !decide (x.at_ = d.writes + 1)).length cf)) 29 6 (((d.faults.take i).filter fun x => !decide (x.at_ = d.writes + 1)).length) (fltRow ((d.faults.take i).filter fun x => !decide (x.at_ = d.writes + 1)))] w41) := HS43.out.pull [0, 1, 2, 3, 4, 5, 6] rfl (pull_nd HS43.out.nd [0, 1, 2, 3, 4, 5, 6] rfl (by decide))
              clear HS43
              have eN : ((d.faults.take (i + 1)).filter fun x => decide (x.at_ = d.writes + 1)) = ((d.faults.take i).filter fun x => decide (x.at_ = d.writes + 1)) ++ [x] := by rw [HTk.out, List.filter_append, List.filter_cons_of_pos (by simpa using HAt.out)]; rfl
              have eL : ((d.faults.take (i + 1)).filter fun x => !decide (x.at_ = d.writes + 1)) = ((d.faults.take i).filter fun x => !decide (x.at_ = d.writes + 1)) := by rw [HTk.out, List.filter_append, List.filter_cons_of_neg (by simpa using HAt.out)]; simp
              go_roundw
              case rel =>
                refine ⟨v41, af, cf, i + 1, rfl, by go_num, HLt.out, ?_⟩
                rw [eN, eL, List.length_append, fltRow_snoc]
                exact HS44.out
              case measure => simp [intOf]; try (have := HLt.out; omega)
            · have hab : (x.at_ == d.writes + 1) = false := by rw [beq_eq_false_iff_ne]; exact hat
              have HAt := Lib.hid hat
              have HNl : Hid (((d.faults.take i).filter fun x => !decide (x.at_ = d.writes + 1)).length ≤ 1000) := Lib.hid (Nat.le_trans (List.length_filter_le _ _) (by rw [List.length_take]; have := HLf.out; omega))
              clear hat
              go_upto_region 17 with (fail)
              refine wp_region_held_drew (S := fun w' => w'.cell? ⟨w.heap.size, 4, none⟩ = some (.slice (some ⟨gf, og, none⟩) d.faults.length fc) ∧ Below w.heap.size w w') (by kernel_rfl) (⟨HQ1.out.drew.at 0 rfl 4 rfl, HQ1.out.drew.old⟩) (fun hHeld => ?_)
              refine wpAnyH_take (i := 0) (oi := { dst := some 63, op := Op.fieldAddr 27 (Operand.tmp 9) 4, type := 0, pos := "ref.go:185", after := #[], guard := none }) (v := ?q1v) rfl (by kernel_rfl) (by kernel_rfl) (by kernel_rfl) (fun _ _ _ h => h) (Or.inl ⟨by rfl, ?q1h⟩) hHeld ?q1r
              case q1h => (intro wq hSw; clear hSw; go_simp; try with_reducible rfl)
              try simp only [Act.put, List.setIfInBounds_toArray, List.set_cons_zero, List.set_cons_succ]
              refine wpAnyH_take (i := 2) (oi := { dst := some 65, op := Op.fieldAddr 27 (Operand.tmp 3) 4, type := 0, pos := "ref.go:185", after := #[], guard := none }) (v := ?q2v) rfl (by kernel_rfl) (by kernel_rfl) (by kernel_rfl) (fun _ _ _ h => h) (Or.inl ⟨by rfl, ?q2h⟩) hHeld ?q2r
              case q2h => (intro wq hSw; clear hSw; go_simp; try with_reducible rfl)
              try simp only [Act.put, List.setIfInBounds_toArray, List.set_cons_zero, List.set_cons_succ]
              refine wpAnyH_take (i := 3) (oi := { dst := some 66, op := Op.load 25 (Operand.tmp 65), type := 25, pos := "ref.go:185", after := #[{ on := 2, ground := Ground.data }], guard := none }) (v := ?q3v) rfl (by kernel_rfl) (by kernel_rfl) (by kernel_rfl) (fun _ _ _ h => h) (Or.inl ⟨by rfl, ?q3h⟩) hHeld ?q3r
              case q3h => (intro wq hSw; have q66 := hSw.1; clear hSw; go_simp; try with_reducible rfl)
              try simp only [Act.put, List.setIfInBounds_toArray, List.set_cons_zero, List.set_cons_succ]
              refine wpAnyH_take (i := 4) (oi := { dst := some 67, op := Op.move (Operand.tmp 11), type := 3, pos := "ref.go:185", after := #[], guard := none }) (v := ?q4v) rfl (by kernel_rfl) (by kernel_rfl) (by kernel_rfl) (fun _ _ _ h => h) (Or.inl ⟨by rfl, ?q4h⟩) hHeld ?q4r
              case q4h => (intro wq hSw; clear hSw; go_simp; try with_reducible rfl)
              try simp only [Act.put, List.setIfInBounds_toArray, List.set_cons_zero, List.set_cons_succ]
              refine wpAnyH_take (i := 5) (oi := { dst := some 68, op := Op.indexAddr 25 (Operand.tmp 66) (Operand.tmp 67), type := 0, pos := "ref.go:185", after := #[{ on := 3, ground := Ground.data }, { on := 4, ground := Ground.data }], guard := none }) (v := ?q5v) rfl (by kernel_rfl) (by kernel_rfl) (by kernel_rfl) (fun _ _ _ h => h) (Or.inl ⟨by rfl, ?q5h⟩) hHeld ?q5r
              case q5h => (intro wq hSw; clear hSw; go_simp; try with_reducible rfl)
              try simp only [Act.put, List.setIfInBounds_toArray, List.set_cons_zero, List.set_cons_succ]
              refine wpAnyH_take (i := 6) (oi := { dst := some 69, op := Op.load 29 (Operand.tmp 68), type := 29, pos := "ref.go:185", after := #[{ on := 5, ground := Ground.data }], guard := none }) rfl (by kernel_rfl) (by kernel_rfl) (by kernel_rfl) (fun _ _ _ h => h) (yieldsIf_load_mid (by rfl) 29 (.tmp 68) rfl gf ((og + i * 6)) rfl (fltCells x) _ (fun _ h => HRow.out _ h.2) HUF.out rfl (info_flt)) hHeld ?_
              try simp only [Act.put, List.setIfInBounds_toArray, List.set_cons_zero, List.set_cons_succ]
              refine wpAnyH_ready (rs := [1, 7]) (by kernel_rfl) (by simp) ?_
              refine AllReadyH.cons (o := { dst := some 64, op := Op.load 25 (Operand.tmp 63), type := 25, pos := "ref.go:185", after := #[{ on := 0, ground := Ground.data }], guard := none }) rfl (fun K hK => ?_) (AllReadyH.cons (o := { dst := some 70, op := Op.buildSlice 25 1 #[(0, Operand.tmp 69)], type := 25, pos := "ref.go:185", after := #[{ on := 6, ground := Ground.data }], guard := none }) rfl (fun K hK => ?_) (AllReadyH.nil))
              · have q64 := (HQ1.out).drew.at 4 rfl 4 rfl
                go_simp
                clear q64
                have HS61 : Hid (Hp w [.ob (w.heap.size) 27 (dvCells (.slice pa d.pages.length pc) d (.slice ua d.unread.length uc) (.slice (some ⟨gf, og, none⟩) d.faults.length fc)), .ob B1 27 (dvCells nilS dvNil nilS nilS), .sl ((.slice a1 d.pages.length c1)) 9 1 (d.pages.length) (strRow d.pages), .sl ((.slice a2 d.unread.length c2)) 3 1 (d.unread.length) (intRow d.unread), .ob B2 27 (dvCells (.slice a1 d.pages.length c1) (⟨d.pages, d.writes + 1, d.unread, d.dead, []⟩ : Dv) (.slice a2 d.unread.length c2) (.slice af ((d.faults.take i).filter fun x => !decide (x.at_ = d.writes + 1)).length cf)), .sl v1 29 6 (((d.faults.take i).filter fun x => decide (x.at_ = d.writes + 1)).length) (fltRow ((d.faults.take i).filter fun x => decide (x.at_ = d.writes + 1))), .sl ((.slice af ((d.faults.take i).filter fun x => !decide (x.at_ = d.writes + 1)).length cf)) 29 6 (((d.faults.take i).filter fun x => !decide (x.at_ = d.writes + 1)).length) (fltRow ((d.faults.take i).filter fun x => !decide (x.at_ = d.writes + 1)))] (w31.drew)) := (HQ1.out).drew
                refine hK.out _ _ (⟨HS61.out.at 0 rfl 4 rfl, HS61.out.old⟩) (fun hHeld => ?_)
                clear hK K
                generalize w31.drew = w61 at *
                try simp only [Act.put, List.setIfInBounds_toArray, List.set_cons_zero, List.set_cons_succ]
                refine wpAnyH_ready (rs := [7]) (by kernel_rfl) (by simp) ?_
                refine AllReadyH.cons (o := { dst := some 70, op := Op.buildSlice 25 1 #[(0, Operand.tmp 69)], type := 25, pos := "ref.go:185", after := #[{ on := 6, ground := Ground.data }], guard := none }) rfl (fun K hK => ?_) (AllReadyH.nil)
                rw [if_pos (by rfl)]
                refine wp_build_obs rfl elem_flt HUX.out [fltCells x] (List.forall_mem_cons.2 ⟨rfl, (fun _ h => absurd h List.not_mem_nil)⟩) (Nat.succ_pos _) (by simp only [List.length_cons, List.length_nil]; omega) rfl (by simp only [List.map_toArray, List.map_cons, List.map_nil, List.zipIdx_cons, List.zipIdx_nil]; exact rfl) ?_
                have HS62 : Hid (Hp w [.ob (w.heap.size) 27 (dvCells (.slice pa d.pages.length pc) d (.slice ua d.unread.length uc) (.slice (some ⟨gf, og, none⟩) d.faults.length fc)), .ob B1 27 (dvCells nilS dvNil nilS nilS), .sl ((.slice a1 d.pages.length c1)) 9 1 (d.pages.length) (strRow d.pages), .sl ((.slice a2 d.unread.length c2)) 3 1 (d.unread.length) (intRow d.unread), .ob B2 27 (dvCells (.slice a1 d.pages.length c1) (⟨d.pages, d.writes + 1, d.unread, d.dead, []⟩ : Dv) (.slice a2 d.unread.length c2) (.slice af ((d.faults.take i).filter fun x => !decide (x.at_ = d.writes + 1)).length cf)), .sl v1 29 6 (((d.faults.take i).filter fun x => decide (x.at_ = d.writes + 1)).length) (fltRow ((d.faults.take i).filter fun x => decide (x.at_ = d.writes + 1))), .sl ((.slice af ((d.faults.take i).filter fun x => !decide (x.at_ = d.writes + 1)).length cf)) 29 6 (((d.faults.take i).filter fun x => !decide (x.at_ = d.writes + 1)).length) (fltRow ((d.faults.take i).filter fun x => !decide (x.at_ = d.writes + 1))), .ob (w61.heap.size) 29 (([fltCells x] : List (List Value)).flatMap id)] (w61.alloc (.cells (([fltCells x] : List (List Value)).flatMap id).toArray 29))) := (HS61.out).put 29 (([fltCells x] : List (List Value)).flatMap id)
                refine hK.out _ _ (⟨HS62.out.at 0 rfl 4 rfl, HS62.out.old⟩) (fun hHeld => ?_)
                clear hK K
                generalize (w61.alloc (.cells (([fltCells x] : List (List Value)).flatMap id).toArray 29)) = w62 at *
                generalize w61.heap.size = B4 at *
                try simp only [Act.put, List.setIfInBounds_toArray, List.set_cons_zero, List.set_cons_succ]
                refine wpAnyH_ready (rs := [8]) (by kernel_rfl) (by simp) ?_
                refine AllReadyH.cons (o := { dst := some 71, op := Op.call { callee := Callee.builtin Builtin.append, args := #[Operand.tmp 64, Operand.tmp 70], argTypes := #[25, 25] }, type := 25, pos := "ref.go:185", after := #[{ on := 1, ground := Ground.data }, { on := 7, ground := Ground.data }], guard := none }) rfl (fun K hK => ?_) (AllReadyH.nil)
                rw [if_pos (by rfl)]
                refine wp_append_hp (HS62.out) (.tmp 64) (.tmp 70) 25 rfl 6 rfl 7 rfl HUX.out elem_flt 1 1 rfl rfl rfl (one_flt x) (by have := HNl.out; omega) ?_
                intro v63 w63 hs hnil
                have HS64 : Hid (Hp w [.ob (w.heap.size) 27 (dvCells (.slice pa d.pages.length pc) d (.slice ua d.unread.length uc) (.slice (some ⟨gf, og, none⟩) d.faults.length fc)), .ob B1 27 (dvCells nilS dvNil nilS nilS), .sl ((.slice a1 d.pages.length c1)) 9 1 (d.pages.length) (strRow d.pages), .sl ((.slice a2 d.unread.length c2)) 3 1 (d.unread.length) (intRow d.unread), .ob B2 27 (dvCells (.slice a1 d.pages.length c1) (⟨d.pages, d.writes + 1, d.unread, d.dead, []⟩ : Dv) (.slice a2 d.unread.length c2) (.slice af ((d.faults.take i).filter fun x => !decide (x.at_ = d.writes + 1)).length cf)), .sl v1 29 6 (((d.faults.take i).filter fun x => decide (x.at_ = d.writes + 1)).length) (fltRow ((d.faults.take i).filter fun x => decide (x.at_ = d.writes + 1))), .sl v63 29 6 (((d.faults.take i).filter fun x => !decide (x.at_ = d.writes + 1)).length + 1) ((fltRow ((d.faults.take i).filter fun x => !decide (x.at_ = d.writes + 1))) ++ (([fltCells x] : List (List Value)).flatMap id)), .ob B4 29 (([fltCells x] : List (List Value)).flatMap id)] w63) := hs
                refine hK.out _ _ (⟨HS64.out.at 0 rfl 4 rfl, HS64.out.old⟩) (fun hHeld => ?_)
                clear hK K hs
                try simp only [Act.put, List.setIfInBounds_toArray, List.set_cons_zero, List.set_cons_succ]
                refine wpAnyH_take (i := 9) (oi := { dst := some 72, op := Op.fieldAddr 27 (Operand.tmp 9) 4, type := 0, pos := "ref.go:185", after := #[{ on := 0, ground := Ground.phase }, { on := 1, ground := Ground.phase }, { on := 2, ground := Ground.phase }, { on := 3, ground := Ground.phase }, { on := 4, ground := Ground.phase }, { on := 5, ground := Ground.phase }, { on := 6, ground := Ground.phase }, { on := 7, ground := Ground.phase }, { on := 8, ground := Ground.phase }], guard := none }) (v := ?q7v) rfl (by kernel_rfl) (by kernel_rfl) (by kernel_rfl) (fun _ _ _ h => h) (Or.inl ⟨by rfl, ?q7h⟩) hHeld ?q7r
                case q7h => (intro wq hSw; clear hSw; go_simp; try with_reducible rfl)
                try simp only [Act.put, List.setIfInBounds_toArray, List.set_cons_zero, List.set_cons_succ]
                refine wpAnyH_ready (rs := [10]) (by kernel_rfl) (by simp) ?_
                refine AllReadyH.cons (o := { dst := none, op := Op.store 25 (Operand.tmp 72) (Operand.tmp 71), type := 0, pos := "ref.go:185", after := #[{ on := 9, ground := Ground.data }, { on := 8, ground := Ground.data }, { on := 8, ground := Ground.chain }, { on := 0, ground := Ground.phase }, { on := 1, ground := Ground.phase }, { on := 2, ground := Ground.phase }, { on := 3, ground := Ground.phase }, { on := 4, ground := Ground.phase }, { on := 5, ground := Ground.phase }, { on := 6, ground := Ground.phase }, { on := 7, ground := Ground.phase }, { on := 8, ground := Ground.phase }], guard := none }) rfl (fun K hK => ?_) (AllReadyH.nil)
                obtain ⟨al5, cl5, rfl⟩ := own_slice (HS64.out.own 6 rfl)
                have q72 := HS64.out.at 4 rfl 4 rfl
                have f72 := HS64.out.frozen 4 rfl 4
                go_simp
                clear q72 f72
                have HS65 : Hid (Hp w [.ob (w.heap.size) 27 (dvCells (.slice pa d.pages.length pc) d (.slice ua d.unread.length uc) (.slice (some ⟨gf, og, none⟩) d.faults.length fc)), .ob B1 27 (dvCells nilS dvNil nilS nilS), .sl ((.slice a1 d.pages.length c1)) 9 1 (d.pages.length) (strRow d.pages), .sl ((.slice a2 d.unread.length c2)) 3 1 (d.unread.length) (intRow d.unread), .ob B2 27 (dvCells (.slice a1 d.pages.length c1) (⟨d.pages, d.writes + 1, d.unread, d.dead, []⟩ : Dv) (.slice a2 d.unread.length c2) (.slice al5 (((d.faults.take i).filter fun x => !decide (x.at_ = d.writes + 1)).length + 1) cl5)), .sl v1 29 6 (((d.faults.take i).filter fun x => decide (x.at_ = d.writes + 1)).length) (fltRow ((d.faults.take i).filter fun x => decide (x.at_ = d.writes + 1))), .sl ((.slice al5 (((d.faults.take i).filter fun x => !decide (x.at_ = d.writes + 1)).length + 1) cl5)) 29 6 (((d.faults.take i).filter fun x => !decide (x.at_ = d.writes + 1)).length + 1) ((fltRow ((d.faults.take i).filter fun x => !decide (x.at_ = d.writes + 1))) ++ (([fltCells x] : List (List Value)).flatMap id)), .ob B4 29 (([fltCells x] : List (List Value)).flatMap id)] (w63.setCell ⟨B2, 4, none⟩ (.slice al5 (((d.faults.take i).filter fun x => !decide (x.at_ = d.writes + 1)).length + 1) cl5))) := (HS64.out).set 4 rfl 4 (.slice al5 (((d.faults.take i).filter fun x => !decide (x.at_ = d.writes + 1)).length + 1) cl5)
                refine hK.out _ _ (⟨HS65.out.at 0 rfl 4 rfl, HS65.out.old⟩) (fun hHeld => ?_)
                clear hK K
                generalize (w63.setCell ⟨B2, 4, none⟩ (.slice al5 (((d.faults.take i).filter fun x => !decide (x.at_ = d.writes + 1)).length + 1) cl5)) = w64 at *
                try simp only [Act.put, List.setIfInBounds_toArray, List.set_cons_zero, List.set_cons_succ]
                refine wpAnyH_done (by kernel_rfl) ?_ _
                clear hHeld
                have HS66 : Hid (Hp w [.ob (w.heap.size) 27 (dvCells (.slice pa d.pages.length pc) d (.slice ua d.unread.length uc) (.slice (some ⟨gf, og, none⟩) d.faults.length fc)), .ob B1 27 (dvCells nilS dvNil nilS nilS), .sl ((.slice a1 d.pages.length c1)) 9 1 (d.pages.length) (strRow d.pages), .sl ((.slice a2 d.unread.length c2)) 3 1 (d.unread.length) (intRow d.unread), .ob B2 27 (dvCells (.slice a1 d.pages.length c1) (⟨d.pages, d.writes + 1, d.unread, d.dead, []⟩ : Dv) (.slice a2 d.unread.length c2) (.slice al5 (((d.faults.take i).filter fun x => !decide (x.at_ = d.writes + 1)).length + 1) cl5)), .sl v1 29 6 (((d.faults.take i).filter fun x => decide (x.at_ = d.writes + 1)).length) (fltRow ((d.faults.take i).filter fun x => decide (x.at_ = d.writes + 1))), .sl ((.slice al5 (((d.faults.take i).filter fun x => !decide (x.at_ = d.writes + 1)).length + 1) cl5)) 29 6 (((d.faults.take i).filter fun x => !decide (x.at_ = d.writes + 1)).length + 1) ((fltRow ((d.faults.take i).filter fun x => !decide (x.at_ = d.writes + 1))) ++ (([fltCells x] : List (List Value)).flatMap id))] w64) := HS65.out.pull [0, 1, 2, 3, 4, 5, 6] rfl (pull_nd HS65.out.nd [0, 1, 2, 3, 4, 5, 6] rfl (by decide))
                clear HS65
                have eN : ((d.faults.take (i + 1)).filter fun x => decide (x.at_ = d.writes + 1)) = ((d.faults.take i).filter fun x => decide (x.at_ = d.writes + 1)) := by rw [HTk.out, List.filter_append, List.filter_cons_of_neg (by simpa using HAt.out)]; simp
                have eL : ((d.faults.take (i + 1)).filter fun x => !decide (x.at_ = d.writes + 1)) = ((d.faults.take i).filter fun x => !decide (x.at_ = d.writes + 1)) ++ [x] := by rw [HTk.out, List.filter_append, List.filter_cons_of_pos (by simpa using HAt.out)]; rfl
                go_wp2_with fail
                go_roundw
                case rel =>
                  refine ⟨v1, al5, cl5, i + 1, rfl, by go_num, HLt.out, ?_⟩
                  rw [eN, eL, List.length_append, fltRow_snoc]
                  exact HS66.out
                case measure => simp [intOf]; try (have := HLt.out; omega)
              · rw [if_pos (by rfl)]
                refine wp_build_obs rfl elem_flt HUX.out [fltCells x] (List.forall_mem_cons.2 ⟨rfl, (fun _ h => absurd h List.not_mem_nil)⟩) (Nat.succ_pos _) (by simp only [List.length_cons, List.length_nil]; omega) rfl (by simp only [List.map_toArray, List.map_cons, List.map_nil, List.zipIdx_cons, List.zipIdx_nil]; exact rfl) ?_
                have HS61 : Hid (Hp w [.ob (w.heap.size) 27 (dvCells (.slice pa d.pages.length pc) d (.slice ua d.unread.length uc) (.slice (some ⟨gf, og, none⟩) d.faults.length fc)), .ob B1 27 (dvCells nilS dvNil nilS nilS), .sl ((.slice a1 d.pages.length c1)) 9 1 (d.pages.length) (strRow d.pages), .sl ((.slice a2 d.unread.length c2)) 3 1 (d.unread.length) (intRow d.unread), .ob B2 27 (dvCells (.slice a1 d.pages.length c1) (⟨d.pages, d.writes + 1, d.unread, d.dead, []⟩ : Dv) (.slice a2 d.unread.length c2) (.slice af ((d.faults.take i).filter fun x => !decide (x.at_ = d.writes + 1)).length cf)), .sl v1 29 6 (((d.faults.take i).filter fun x => decide (x.at_ = d.writes + 1)).length) (fltRow ((d.faults.take i).filter fun x => decide (x.at_ = d.writes + 1))), .sl ((.slice af ((d.faults.take i).filter fun x => !decide (x.at_ = d.writes + 1)).length cf)) 29 6 (((d.faults.take i).filter fun x => !decide (x.at_ = d.writes + 1)).length) (fltRow ((d.faults.take i).filter fun x => !decide (x.at_ = d.writes + 1))), .ob (w31.drew.heap.size) 29 (([fltCells x] : List (List Value)).flatMap id)] (w31.drew.alloc (.cells (([fltCells x] : List (List Value)).flatMap id).toArray 29))) := ((HQ1.out).drew).put 29 (([fltCells x] : List (List Value)).flatMap id)
                refine hK.out _ _ (⟨HS61.out.at 0 rfl 4 rfl, HS61.out.old⟩) (fun hHeld => ?_)
                clear hK K
                generalize (w31.drew.alloc (.cells (([fltCells x] : List (List Value)).flatMap id).toArray 29)) = w61 at *
                generalize w31.drew.heap.size = B4 at *
                try simp only [Act.put, List.setIfInBounds_toArray, List.set_cons_zero, List.set_cons_succ]
                refine wpAnyH_ready (rs := [1]) (by kernel_rfl) (by simp) ?_
                refine AllReadyH.cons (o := { dst := some 64, op := Op.load 25 (Operand.tmp 63), type := 25, pos := "ref.go:185", after := #[{ on := 0, ground := Ground.data }], guard := none }) rfl (fun K hK => ?_) (AllReadyH.nil)
                have q64 := HS61.out.at 4 rfl 4 rfl
                go_simp
                clear q64
                have HS62 : Hid (Hp w [.ob (w.heap.size) 27 (dvCells (.slice pa d.pages.length pc) d (.slice ua d.unread.length uc) (.slice (some ⟨gf, og, none⟩) d.faults.length fc)), .ob B1 27 (dvCells nilS dvNil nilS nilS), .sl ((.slice a1 d.pages.length c1)) 9 1 (d.pages.length) (strRow d.pages), .sl ((.slice a2 d.unread.length c2)) 3 1 (d.unread.length) (intRow d.unread), .ob B2 27 (dvCells (.slice a1 d.pages.length c1) (⟨d.pages, d.writes + 1, d.unread, d.dead, []⟩ : Dv) (.slice a2 d.unread.length c2) (.slice af ((d.faults.take i).filter fun x => !decide (x.at_ = d.writes + 1)).length cf)), .sl v1 29 6 (((d.faults.take i).filter fun x => decide (x.at_ = d.writes + 1)).length) (fltRow ((d.faults.take i).filter fun x => decide (x.at_ = d.writes + 1))), .sl ((.slice af ((d.faults.take i).filter fun x => !decide (x.at_ = d.writes + 1)).length cf)) 29 6 (((d.faults.take i).filter fun x => !decide (x.at_ = d.writes + 1)).length) (fltRow ((d.faults.take i).filter fun x => !decide (x.at_ = d.writes + 1))), .ob B4 29 (([fltCells x] : List (List Value)).flatMap id)] w61) := HS61.out
                refine hK.out _ _ (⟨HS62.out.at 0 rfl 4 rfl, HS62.out.old⟩) (fun hHeld => ?_)
                clear hK K
                try simp only [Act.put, List.setIfInBounds_toArray, List.set_cons_zero, List.set_cons_succ]
                refine wpAnyH_ready (rs := [8]) (by kernel_rfl) (by simp) ?_
                refine AllReadyH.cons (o := { dst := some 71, op := Op.call { callee := Callee.builtin Builtin.append, args := #[Operand.tmp 64, Operand.tmp 70], argTypes := #[25, 25] }, type := 25, pos := "ref.go:185", after := #[{ on := 1, ground := Ground.data }, { on := 7, ground := Ground.data }], guard := none }) rfl (fun K hK => ?_) (AllReadyH.nil)
                rw [if_pos (by rfl)]
                refine wp_append_hp (HS62.out) (.tmp 64) (.tmp 70) 25 rfl 6 rfl 7 rfl HUX.out elem_flt 1 1 rfl rfl rfl (one_flt x) (by have := HNl.out; omega) ?_
                intro v62 w62 hs hnil
                have HS64 : Hid (Hp w [.ob (w.heap.size) 27 (dvCells (.slice pa d.pages.length pc) d (.slice ua d.unread.length uc) (.slice (some ⟨gf, og, none⟩) d.faults.length fc)), .ob B1 27 (dvCells nilS dvNil nilS nilS), .sl ((.slice a1 d.pages.length c1)) 9 1 (d.pages.length) (strRow d.pages), .sl ((.slice a2 d.unread.length c2)) 3 1 (d.unread.length) (intRow d.unread), .ob B2 27 (dvCells (.slice a1 d.pages.length c1) (⟨d.pages, d.writes + 1, d.unread, d.dead, []⟩ : Dv) (.slice a2 d.unread.length c2) (.slice af ((d.faults.take i).filter fun x => !decide (x.at_ = d.writes + 1)).length cf)), .sl v1 29 6 (((d.faults.take i).filter fun x => decide (x.at_ = d.writes + 1)).length) (fltRow ((d.faults.take i).filter fun x => decide (x.at_ = d.writes + 1))), .sl v62 29 6 (((d.faults.take i).filter fun x => !decide (x.at_ = d.writes + 1)).length + 1) ((fltRow ((d.faults.take i).filter fun x => !decide (x.at_ = d.writes + 1))) ++ (([fltCells x] : List (List Value)).flatMap id)), .ob B4 29 (([fltCells x] : List (List Value)).flatMap id)] w62) := hs
                refine hK.out _ _ (⟨HS64.out.at 0 rfl 4 rfl, HS64.out.old⟩) (fun hHeld => ?_)
                clear hK K hs
                try simp only [Act.put, List.setIfInBounds_toArray, List.set_cons_zero, List.set_cons_succ]
                refine wpAnyH_take (i := 9) (oi := { dst := some 72, op := Op.fieldAddr 27 (Operand.tmp 9) 4, type := 0, pos := "ref.go:185", after := #[{ on := 0, ground := Ground.phase }, { on := 1, ground := Ground.phase }, { on := 2, ground := Ground.phase }, { on := 3, ground := Ground.phase }, { on := 4, ground := Ground.phase }, { on := 5, ground := Ground.phase }, { on := 6, ground := Ground.phase }, { on := 7, ground := Ground.phase }, { on := 8, ground := Ground.phase }], guard := none }) (v := ?q8v) rfl (by kernel_rfl) (by kernel_rfl) (by kernel_rfl) (fun _ _ _ h => h) (Or.inl ⟨by rfl, ?q8h⟩) hHeld ?q8r
                case q8h => (intro wq hSw; clear hSw; go_simp; try with_reducible rfl)
                try simp only [Act.put, List.setIfInBounds_toArray, List.set_cons_zero, List.set_cons_succ]
                refine wpAnyH_ready (rs := [10]) (by kernel_rfl) (by simp) ?_
                refine AllReadyH.cons (o := { dst := none, op := Op.store 25 (Operand.tmp 72) (Operand.tmp 71), type := 0, pos := "ref.go:185", after := #[{ on := 9, ground := Ground.data }, { on := 8, ground := Ground.data }, { on := 8, ground := Ground.chain }, { on := 0, ground := Ground.phase }, { on := 1, ground := Ground.phase }, { on := 2, ground := Ground.phase }, { on := 3, ground := Ground.phase }, { on := 4, ground := Ground.phase }, { on := 5, ground := Ground.phase }, { on := 6, ground := Ground.phase }, { on := 7, ground := Ground.phase }, { on := 8, ground := Ground.phase }], guard := none }) rfl (fun K hK => ?_) (AllReadyH.nil)
                obtain ⟨al5, cl5, rfl⟩ := own_slice (HS64.out.own 6 rfl)
                have q72 := HS64.out.at 4 rfl 4 rfl
                have f72 := HS64.out.frozen 4 rfl 4
                go_simp
                clear q72 f72
                have HS65 : Hid (Hp w [.ob (w.heap.size) 27 (dvCells (.slice pa d.pages.length pc) d (.slice ua d.unread.length uc) (.slice (some ⟨gf, og, none⟩) d.faults.length fc)), .ob B1 27 (dvCells nilS dvNil nilS nilS), .sl ((.slice a1 d.pages.length c1)) 9 1 (d.pages.length) (strRow d.pages), .sl ((.slice a2 d.unread.length c2)) 3 1 (d.unread.length) (intRow d.unread), .ob B2 27 (dvCells (.slice a1 d.pages.length c1) (⟨d.pages, d.writes + 1, d.unread, d.dead, []⟩ : Dv) (.slice a2 d.unread.length c2) (.slice al5 (((d.faults.take i).filter fun x => !decide (x.at_ = d.writes + 1)).length + 1) cl5)), .sl v1 29 6 (((d.faults.take i).filter fun x => decide (x.at_ = d.writes + 1)).length) (fltRow ((d.faults.take i).filter fun x => decide (x.at_ = d.writes + 1))), .sl ((.slice al5 (((d.faults.take i).filter fun x => !decide (x.at_ = d.writes + 1)).length + 1) cl5)) 29 6 (((d.faults.take i).filter fun x => !decide (x.at_ = d.writes + 1)).length + 1) ((fltRow ((d.faults.take i).filter fun x => !decide (x.at_ = d.writes + 1))) ++ (([fltCells x] : List (List Value)).flatMap id)), .ob B4 29 (([fltCells x] : List (List Value)).flatMap id)] (w62.setCell ⟨B2, 4, none⟩ (.slice al5 (((d.faults.take i).filter fun x => !decide (x.at_ = d.writes + 1)).length + 1) cl5))) := (HS64.out).set 4 rfl 4 (.slice al5 (((d.faults.take i).filter fun x => !decide (x.at_ = d.writes + 1)).length + 1) cl5)
                refine hK.out _ _ (⟨HS65.out.at 0 rfl 4 rfl, HS65.out.old⟩) (fun hHeld => ?_)
                clear hK K
                generalize (w62.setCell ⟨B2, 4, none⟩ (.slice al5 (((d.faults.take i).filter fun x => !decide (x.at_ = d.writes + 1)).length + 1) cl5)) = w63 at *
                try simp only [Act.put, List.setIfInBounds_toArray, List.set_cons_zero, List.set_cons_succ]
                refine wpAnyH_done (by kernel_rfl) ?_ _
                clear hHeld
                have HS66 : Hid (Hp w [.ob (w.heap.size) 27 (dvCells (.slice pa d.pages.length pc) d (.slice ua d.unread.length uc) (.slice (some ⟨gf, og, none⟩) d.faults.length fc)), .ob B1 27 (dvCells nilS dvNil nilS nilS), .sl ((.slice a1 d.pages.length c1)) 9 1 (d.pages.length) (strRow d.pages), .sl ((.slice a2 d.unread.length c2)) 3 1 (d.unread.length) (intRow d.unread), .ob B2 27 (dvCells (.slice a1 d.pages.length c1) (⟨d.pages, d.writes + 1, d.unread, d.dead, []⟩ : Dv) (.slice a2 d.unread.length c2) (.slice al5 (((d.faults.take i).filter fun x => !decide (x.at_ = d.writes + 1)).length + 1) cl5)), .sl v1 29 6 (((d.faults.take i).filter fun x => decide (x.at_ = d.writes + 1)).length) (fltRow ((d.faults.take i).filter fun x => decide (x.at_ = d.writes + 1))), .sl ((.slice al5 (((d.faults.take i).filter fun x => !decide (x.at_ = d.writes + 1)).length + 1) cl5)) 29 6 (((d.faults.take i).filter fun x => !decide (x.at_ = d.writes + 1)).length + 1) ((fltRow ((d.faults.take i).filter fun x => !decide (x.at_ = d.writes + 1))) ++ (([fltCells x] : List (List Value)).flatMap id))] w63) := HS65.out.pull [0, 1, 2, 3, 4, 5, 6] rfl (pull_nd HS65.out.nd [0, 1, 2, 3, 4, 5, 6] rfl (by decide))
                clear HS65
                have eN : ((d.faults.take (i + 1)).filter fun x => decide (x.at_ = d.writes + 1)) = ((d.faults.take i).filter fun x => decide (x.at_ = d.writes + 1)) := by rw [HTk.out, List.filter_append, List.filter_cons_of_neg (by simpa using HAt.out)]; simp
                have eL : ((d.faults.take (i + 1)).filter fun x => !decide (x.at_ = d.writes + 1)) = ((d.faults.take i).filter fun x => !decide (x.at_ = d.writes + 1)) ++ [x] := by rw [HTk.out, List.filter_append, List.filter_cons_of_pos (by simpa using HAt.out)]; rfl
                go_wp2_with fail
                go_roundw
                case rel =>
                  refine ⟨v1, al5, cl5, i + 1, rfl, by go_num, HLt.out, ?_⟩
                  rw [eN, eL, List.length_append, fltRow_snoc]
                  exact HS66.out
                case measure => simp [intOf]; try (have := HLt.out; omega)
          · have hii : ¬ (i : Int) < (d.faults.length : Int) := by omega
            have HQ6 : Hid (Hp w [.ob w.heap.size 27 (dvCells (.slice pa d.pages.length pc) d (.slice ua d.unread.length uc) (.slice fa d.faults.length fc)), .ob B1 27 (dvCells nilS dvNil nilS nilS), .sl (.slice a1 d.pages.length c1) 9 1 (⟨d.pages, d.writes + 1, d.unread, d.dead, laterR d⟩ : Dv).pages.length (strRow (⟨d.pages, d.writes + 1, d.unread, d.dead, laterR d⟩ : Dv).pages), .sl (.slice a2 d.unread.length c2) 3 1 (⟨d.pages, d.writes + 1, d.unread, d.dead, laterR d⟩ : Dv).unread.length (intRow (⟨d.pages, d.writes + 1, d.unread, d.dead, laterR d⟩ : Dv).unread), .ob B2 27 (dvCells (.slice a1 d.pages.length c1) (⟨d.pages, d.writes + 1, d.unread, d.dead, laterR d⟩ : Dv) (.slice a2 d.unread.length c2) (.slice af (laterR d).length cf)), .sl v1 29 6 (nowR d).length (fltRow (nowR d)), .sl (.slice af (laterR d).length cf) 29 6 (laterR d).length (fltRow (laterR d))] wr) := by
              have h := HQ.out
              have e : i = d.faults.length := by omega
              rw [e, List.take_length] at h
              exact Lib.hid h
            have HRg : Hid (∀ x ∈ nowR d, (0 ≤ x.target ∧ x.target < (d.pages.length : Int)) ∧ (0 ≤ x.byte ∧ x.byte < 256) ∧ (0 ≤ x.page ∧ x.page < (d.pages.length : Int))) := Lib.hid (fun x hx => flt_ranges (HOk.out.2.2.2.2.2 x (List.mem_filter.1 hx).1))
            have HGn : Hid (∀ x ∈ nowR d, GoodFlt x) := Lib.hid (fun x hx => HGf.out x (List.mem_filter.1 hx).1)
            have HNn : Hid ((nowR d).length ≤ 64) := Lib.hid (Nat.le_trans (List.length_filter_le _ _) HOk.out.2.2.1)
            have HWr : Hid (writeR d k s = ((nowR d).foldl happenR (landR (⟨d.pages, d.writes + 1, d.unread, d.dead, laterR d⟩ : Dv) k s (nowR d)), 0)) := Lib.hid (by unfold writeR; rw [if_neg HX.out, if_neg HY.out, if_neg HZ.out])
            clear HQ hlt hi him
            go_upto_block 2 with fail
            clear c4 hii hi0
            generalize nowR d = nw at *
            generalize laterR d = lt at *
            obtain ⟨a0, c0, rfl⟩ := own_slice (HQ6.out.own 5 rfl)
            go_cut [12] (fun sd wx => ∃ (dn : Bool) (dd : Dv) (au : Option Addr) (cu : Nat), sd = .bool dn ∧ LandEnd (⟨d.pages, d.writes + 1, d.unread, d.dead, lt⟩ : Dv) k s nw dn dd ∧ Hp w [.ob w.heap.size 27 (dvCells (.slice pa d.pages.length pc) d (.slice ua d.unread.length uc) (.slice fa d.faults.length fc)), .ob B1 27 (dvCells nilS dvNil nilS nilS), .sl (.slice a1 d.pages.length c1) 9 1 dd.pages.length (strRow dd.pages), .sl (.slice au dd.unread.length cu) 3 1 dd.unread.length (intRow dd.unread), .ob B2 27 (dvCells (.slice a1 d.pages.length c1) dd (.slice au dd.unread.length cu) (.slice af lt.length cf)), .sl (.slice a0 nw.length c0) 29 6 nw.length (fltRow nw), .sl (.slice af lt.length cf) 29 6 lt.length (fltRow lt)] wx)
            case first =>
              go_wp2_with fail
              go_loopw [12, 13] (fun sn si wx => ∃ (dn : Bool) (dd : Dv) (au : Option Addr) (cu : Nat) (i : Nat), sn = .bool dn ∧ si = .int .i64 i ∧ i ≤ nw.length ∧ LandSt (⟨d.pages, d.writes + 1, d.unread, d.dead, lt⟩ : Dv) k s nw i dn dd ∧ Hp w [.ob w.heap.size 27 (dvCells (.slice pa d.pages.length pc) d (.slice ua d.unread.length uc) (.slice fa d.faults.length fc)), .ob B1 27 (dvCells nilS dvNil nilS nilS), .sl (.slice a1 d.pages.length c1) 9 1 dd.pages.length (strRow dd.pages), .sl (.slice au dd.unread.length cu) 3 1 dd.unread.length (intRow dd.unread), .ob B2 27 (dvCells (.slice a1 d.pages.length c1) dd (.slice au dd.unread.length cu) (.slice af lt.length cf)), .sl (.slice a0 nw.length c0) 29 6 nw.length (fltRow nw), .sl (.slice af lt.length cf) 29 6 lt.length (fltRow lt)] wx) (fun _ si _ => nw.length - (intOf si).toNat)
              case atStart => exact ⟨false, (⟨d.pages, d.writes + 1, d.unread, d.dead, lt⟩ : Dv), _, _, 0, rfl, rfl, Nat.zero_le _, LandSt.start _ _ _ _, HQ6.out⟩
              case round =>
                obtain ⟨dn, dd, au, cu, i, rfl, rfl, hi, hst, hs⟩ := hrel
                clear HQ6
                have HQ := Lib.hid hs
                have HSt := Lib.hid hst
                clear hs hst
                have hi0 : (0 : Int) ≤ (i : Int) := by omega
                have him : (i : Int) ≤ 64 := by have := HNn.out; omega
                by_cases hlt : i < nw.length
                case neg =>
                  have hii : ¬ (i : Int) < (nw.length : Int) := by omega
                  have HEn : Hid (LandEnd (⟨d.pages, d.writes + 1, d.unread, d.dead, lt⟩ : Dv) k s nw dn dd) := Lib.hid (LandSt.last (by omega) HSt.out)
                  clear HSt hlt hi him
                  go_wp2_with fail
                  go_meet
                  exact ⟨dn, dd, au, cu, rfl, HEn.out, HQ.out⟩
                case pos =>
                have hii : (i : Int) < (nw.length : Int) := by omega
                cases dn
                case true =>
                  have HEn : Hid (LandEnd (⟨d.pages, d.writes + 1, d.unread, d.dead, lt⟩ : Dv) k s nw true dd) := Lib.hid (LandSt.done HSt.out)
                  clear HSt hlt hi him
                  go_wp2_with fail
                  go_meet
                  exact ⟨true, dd, au, cu, rfl, HEn.out, HQ.out⟩
                case false =>
                obtain rfl : dd = (⟨d.pages, d.writes + 1, d.unread, d.dead, lt⟩ : Dv) := LandSt.is HSt.out
                have ho := HQ.out.own 5 rfl
                rcases ho.2 with ⟨_, h0⟩ | ⟨gq, cq, curq, hvq, hBq, hgq, hq1, hq2, hq3, hq4⟩
                · omega
                have ea : a0 = some ⟨gq, 0, none⟩ := by injection hvq
                subst ea
                obtain ⟨x, hx⟩ : ∃ x, nw[i] = x := ⟨_, rfl⟩
                have HFl : Hid (∀ t v, (fltCells x)[t]? = some v → (fltRow nw)[i * 6 + t]? = some v) := Lib.hid (fun t v hv => fltRow_at nw i hlt t v (by rw [hx]; exact hv))
                have hxm : x ∈ nw := by rw [← hx]; exact List.getElem_mem hlt
                have HXr := Lib.hid (HRg.out x hxm)
                have HLx := Lib.hid (show nw[i]? = some x by rw [List.getElem?_eq_getElem hlt, hx])
                have HLt := Lib.hid hlt
                clear ho hvq hBq hgq hq1 hq2 hq3 hq4 hxm hx hlt
                have e0 : wr.cell? ⟨gq, i * 6, none⟩ = some (.int .i64 x.kind) := own_range (HQ.out.own 5 rfl) rfl (i * 6) (fltCells x) HFl.out 0 _ rfl
                by_cases k1 : x.kind = 1
                · have HN : Hid (LandSt (⟨d.pages, d.writes + 1, d.unread, d.dead, lt⟩ : Dv) k s nw (i + 1) true (⟨d.pages, d.writes + 1, d.unread, d.dead, lt⟩ : Dv)) := Lib.hid (LandSt.lost HLx.out k1 HSt.out)
                  have k1b : (x.kind == 1) = true := by rw [k1]; rfl
                  clear HSt k1
                  go_wp2_with fail
                  go_roundw
                  case rel => exact ⟨true, (⟨d.pages, d.writes + 1, d.unread, d.dead, lt⟩ : Dv), au, cu, i + 1, rfl, by go_num, HLt.out, HN.out, HQ.out⟩
                  case measure => simp [intOf]; have := HLt.out; omega
                have k1b : (x.kind == 1) = false := by rw [beq_eq_false_iff_ne]; exact k1
                by_cases k2 : x.kind = 2
                · obtain ⟨kt, hkt⟩ := Int.eq_ofNat_of_zero_le HXr.out.1.1
                  have HKt : Hid (kt < d.pages.length) := Lib.hid (by have := HXr.out; omega)
                  have HF2 : Hid (∀ t v, (fltCells ⟨x.kind, x.at_, x.page, (kt : Int), x.byte, x.mask⟩)[t]? = some v → (fltRow nw)[i * 6 + t]? = some v) := Lib.hid (by have := HFl.out; rw [show x = ⟨x.kind, x.at_, x.page, (kt : Int), x.byte, x.mask⟩ from by rw [← hkt]] at this; exact this)
                  have HN : Hid (LandSt (⟨d.pages, d.writes + 1, d.unread, d.dead, lt⟩ : Dv) k s nw (i + 1) true (placeR (⟨d.pages, d.writes + 1, d.unread, d.dead, lt⟩ : Dv) (kt : Int) s 256)) := Lib.hid (by have := LandSt.astray HLx.out k2 HSt.out; rw [hkt] at this; exact this)
                  have k2b : (x.kind == 2) = true := by rw [k2]; rfl
                  clear k2 HSt hkt HFl k1
                  go_upto_region 26 with (fail)
                  clear e0
                  refine wp_region_held_drew (S := fun w' => w'.rangeAt gq (i * 6) (fltCells ⟨x.kind, x.at_, x.page, (kt : Int), x.byte, x.mask⟩)) (by kernel_rfl) (own_range ((HQ.out).drew.own 5 rfl) rfl (i * 6) (fltCells ⟨x.kind, x.at_, x.page, (kt : Int), x.byte, x.mask⟩) HF2.out) (fun hHeld => ?_)
                  refine wpAnyH_take (i := 1) (oi := { dst := some 93, op := Op.move (Operand.tmp 10), type := 25, pos := "ref.go:194", after := #[], guard := none }) (v := ?q9v) rfl (by kernel_rfl) (by kernel_rfl) (by kernel_rfl) (fun _ _ _ h => h) (Or.inl ⟨by rfl, ?q9h⟩) hHeld ?q9r
                  case q9h => (intro wq hSw; clear hSw; go_simp; try with_reducible rfl)
                  try simp only [Act.put, List.setIfInBounds_toArray, List.set_cons_zero, List.set_cons_succ]
                  refine wpAnyH_take (i := 2) (oi := { dst := some 94, op := Op.move (Operand.tmp 13), type := 3, pos := "ref.go:194", after := #[], guard := none }) (v := ?q10v) rfl (by kernel_rfl) (by kernel_rfl) (by kernel_rfl) (fun _ _ _ h => h) (Or.inl ⟨by rfl, ?q10h⟩) hHeld ?q10r
                  case q10h => (intro wq hSw; clear hSw; go_simp; try with_reducible rfl)
                  try simp only [Act.put, List.setIfInBounds_toArray, List.set_cons_zero, List.set_cons_succ]
                  refine wpAnyH_take (i := 3) (oi := { dst := some 95, op := Op.indexAddr 25 (Operand.tmp 93) (Operand.tmp 94), type := 0, pos := "ref.go:194", after := #[{ on := 1, ground := Ground.data }, { on := 2, ground := Ground.data }], guard := none }) (v := ?q11v) rfl (by kernel_rfl) (by kernel_rfl) (by kernel_rfl) (fun _ _ _ h => h) (Or.inl ⟨by rfl, ?q11h⟩) hHeld ?q11r
                  case q11h => (intro wq hSw; clear hSw; go_simp; try with_reducible rfl)
                  try simp only [Act.put, List.setIfInBounds_toArray, List.set_cons_zero, List.set_cons_succ]
                  refine wpAnyH_take (i := 4) (oi := { dst := some 96, op := Op.fieldAddr 29 (Operand.tmp 95) 3, type := 0, pos := "ref.go:194", after := #[{ on := 3, ground := Ground.data }], guard := none }) (v := ?q12v) rfl (by kernel_rfl) (by kernel_rfl) (by kernel_rfl) (fun _ _ _ h => h) (Or.inl ⟨by rfl, ?q12h⟩) hHeld ?q12r
                  case q12h => (intro wq hSw; clear hSw; go_simp; try with_reducible rfl)
                  try simp only [Act.put, List.setIfInBounds_toArray, List.set_cons_zero, List.set_cons_succ]
                  refine wpAnyH_take (i := 5) (oi := { dst := some 97, op := Op.load 3 (Operand.tmp 96), type := 3, pos := "ref.go:194", after := #[{ on := 4, ground := Ground.data }], guard := none }) (v := .int .i64 (kt : Int)) rfl (by kernel_rfl) (by kernel_rfl) (by kernel_rfl) (fun _ _ _ h => h) (Or.inl ⟨by rfl, ?q13h⟩) hHeld ?q13r
                  case q13h => (intro wq hSw; have qL := hSw 3 _ rfl; clear hSw; go_simp; try with_reducible rfl)
                  try simp only [Act.put, List.setIfInBounds_toArray, List.set_cons_zero, List.set_cons_succ]
                  refine wpAnyH_take (i := 6) (oi := { dst := some 98, op := Op.move (Operand.tmp 2), type := 9, pos := "ref.go:194", after := #[], guard := none }) (v := ?q14v) rfl (by kernel_rfl) (by kernel_rfl) (by kernel_rfl) (fun _ _ _ h => h) (Or.inl ⟨by rfl, ?q14h⟩) hHeld ?q14r
                  case q14h => (intro wq hSw; clear hSw; go_simp; try with_reducible rfl)
                  try simp only [Act.put, List.setIfInBounds_toArray, List.set_cons_zero, List.set_cons_succ]
                  refine wpAnyH_ready (rs := [0]) (by kernel_rfl) (by simp) ?_
                  refine AllReadyH.cons (o := { dst := some 92, op := Op.load 27 (Operand.tmp 9), type := 27, pos := "ref.go:194", after := #[], guard := none }) rfl (fun K hK => ?_) (AllReadyH.nil)
                  rw [if_pos (by rfl)]
                  refine wp_load_ob 27 (.tmp 9) B2 (dvCells (.slice a1 d.pages.length c1) (⟨d.pages, d.writes + 1, d.unread, d.dead, lt⟩ : Dv) (.slice au (⟨d.pages, d.writes + 1, d.unread, d.dead, lt⟩ : Dv).unread.length cu) (.slice af lt.length cf)) 27 HUD.out rfl rfl (((HQ.out).drew).get 4 rfl) rfl (info_dv) ?_
                  have HS81 : Hid (Hp w [.ob (w.heap.size) 27 (dvCells (.slice pa d.pages.length pc) d (.slice ua d.unread.length uc) (.slice fa d.faults.length fc)), .ob B1 27 (dvCells nilS dvNil nilS nilS), .sl ((.slice a1 d.pages.length c1)) 9 1 ((⟨d.pages, d.writes + 1, d.unread, d.dead, lt⟩ : Dv).pages.length) (strRow (⟨d.pages, d.writes + 1, d.unread, d.dead, lt⟩ : Dv).pages), .sl ((.slice au (⟨d.pages, d.writes + 1, d.unread, d.dead, lt⟩ : Dv).unread.length cu)) 3 1 ((⟨d.pages, d.writes + 1, d.unread, d.dead, lt⟩ : Dv).unread.length) (intRow (⟨d.pages, d.writes + 1, d.unread, d.dead, lt⟩ : Dv).unread), .ob B2 27 (dvCells (.slice a1 d.pages.length c1) (⟨d.pages, d.writes + 1, d.unread, d.dead, lt⟩ : Dv) (.slice au (⟨d.pages, d.writes + 1, d.unread, d.dead, lt⟩ : Dv).unread.length cu) (.slice af lt.length cf)), .sl ((.slice (some ⟨gq, 0, none⟩) nw.length c0)) 29 6 (nw.length) (fltRow nw), .sl ((.slice af lt.length cf)) 29 6 (lt.length) (fltRow lt)] (wr.drew)) := (HQ.out).drew
                  refine hK.out _ _ (own_range (HS81.out.own 5 rfl) rfl (i * 6) (fltCells ⟨x.kind, x.at_, x.page, (kt : Int), x.byte, x.mask⟩) HF2.out) (fun hHeld => ?_)
                  clear hK K
                  generalize wr.drew = w81 at *
                  try simp only [Act.put, List.setIfInBounds_toArray, List.set_cons_zero, List.set_cons_succ]
                  refine wpAnyH_ready (rs := [7]) (by kernel_rfl) (by simp) ?_
                  refine AllReadyH.cons (o := { dst := some 99, op := Op.call { callee := Callee.value (Operand.func 48), args := #[Operand.tmp 92, Operand.tmp 97, Operand.tmp 98, Operand.const (Value.int IntKind.i64 256)], argTypes := #[27, 3, 9, 3] }, type := 27, pos := "ref.go:194", after := #[{ on := 0, ground := Ground.data }, { on := 5, ground := Ground.data }, { on := 6, ground := Ground.data }], guard := none }) rfl (fun K hK => ?_) (AllReadyH.nil)
                  have h7 : Hp w [.sl ((.slice a1 d.pages.length c1)) 9 1 ((⟨d.pages, d.writes + 1, d.unread, d.dead, lt⟩ : Dv).pages.length) (strRow (⟨d.pages, d.writes + 1, d.unread, d.dead, lt⟩ : Dv).pages), .sl ((.slice au (⟨d.pages, d.writes + 1, d.unread, d.dead, lt⟩ : Dv).unread.length cu)) 3 1 ((⟨d.pages, d.writes + 1, d.unread, d.dead, lt⟩ : Dv).unread.length) (intRow (⟨d.pages, d.writes + 1, d.unread, d.dead, lt⟩ : Dv).unread), .ob (w.heap.size) 27 (dvCells (.slice pa d.pages.length pc) d (.slice ua d.unread.length uc) (.slice fa d.faults.length fc)), .ob B1 27 (dvCells nilS dvNil nilS nilS), .ob B2 27 (dvCells (.slice a1 d.pages.length c1) (⟨d.pages, d.writes + 1, d.unread, d.dead, lt⟩ : Dv) (.slice au (⟨d.pages, d.writes + 1, d.unread, d.dead, lt⟩ : Dv).unread.length cu) (.slice af lt.length cf)), .sl ((.slice (some ⟨gq, 0, none⟩) nw.length c0)) 29 6 (nw.length) (fltRow nw), .sl ((.slice af lt.length cf)) 29 6 (lt.length) (fltRow lt)] w81 := (HS81.out).pull [2, 3, 0, 1, 4, 5, 6] rfl (pull_nd (HS81.out).nd [2, 3, 0, 1, 4, 5, 6] rfl (by decide))
                  have hpl := place_any (d := (⟨d.pages, d.writes + 1, d.unread, d.dead, lt⟩ : Dv)) (fa := af) (fl := lt.length) (fc := cf) s kt 256 h7 HKt.out HOk.out.1.all HSz.out (Nat.le_refl _) (by have := HOk.out.1.few; show d.unread.length ≤ 1000; omega)
                  go_simp
                  go_wp2_with (go_at_call 48; refine hpl.mono ?_; rintro e w82 ⟨u9, rfl, h9⟩)
                  obtain ⟨au9, cu9, rfl⟩ := own_slice (h9.own 1 rfl)
                  have HS82 : Hid (Hp w [.ob (w.heap.size) 27 (dvCells (.slice pa d.pages.length pc) d (.slice ua d.unread.length uc) (.slice fa d.faults.length fc)), .ob B1 27 (dvCells nilS dvNil nilS nilS), .sl ((.slice a1 d.pages.length c1)) 9 1 ((placeR (⟨d.pages, d.writes + 1, d.unread, d.dead, lt⟩ : Dv) (kt : Int) s 256).pages.length) (strRow (placeR (⟨d.pages, d.writes + 1, d.unread, d.dead, lt⟩ : Dv) (kt : Int) s 256).pages), .sl ((.slice au9 (placeR (⟨d.pages, d.writes + 1, d.unread, d.dead, lt⟩ : Dv) (kt : Int) s 256).unread.length cu9)) 3 1 ((placeR (⟨d.pages, d.writes + 1, d.unread, d.dead, lt⟩ : Dv) (kt : Int) s 256).unread.length) (intRow (placeR (⟨d.pages, d.writes + 1, d.unread, d.dead, lt⟩ : Dv) (kt : Int) s 256).unread), .ob B2 27 (dvCells (.slice a1 d.pages.length c1) (⟨d.pages, d.writes + 1, d.unread, d.dead, lt⟩ : Dv) (.slice au (⟨d.pages, d.writes + 1, d.unread, d.dead, lt⟩ : Dv).unread.length cu) (.slice af lt.length cf)), .sl ((.slice (some ⟨gq, 0, none⟩) nw.length c0)) 29 6 (nw.length) (fltRow nw), .sl ((.slice af lt.length cf)) 29 6 (lt.length) (fltRow lt)] w82) := h9.pull [2, 3, 0, 1, 4, 5, 6] rfl (pull_nd h9.nd [2, 3, 0, 1, 4, 5, 6] rfl (by decide))
                  refine hK.out _ _ (own_range (HS82.out.own 5 rfl) rfl (i * 6) (fltCells ⟨x.kind, x.at_, x.page, (kt : Int), x.byte, x.mask⟩) HF2.out) (fun hHeld => ?_)
                  clear hK K h9 hpl h7
                  try simp only [Act.put, List.setIfInBounds_toArray, List.set_cons_zero, List.set_cons_succ]
                  refine wpAnyH_ready (rs := [8]) (by kernel_rfl) (by simp) ?_
                  refine AllReadyH.cons (o := { dst := none, op := Op.store 27 (Operand.tmp 9) (Operand.tmp 99), type := 0, pos := "ref.go:194", after := #[{ on := 7, ground := Ground.data }, { on := 7, ground := Ground.chain }, { on := 0, ground := Ground.phase }, { on := 1, ground := Ground.phase }, { on := 2, ground := Ground.phase }, { on := 3, ground := Ground.phase }, { on := 4, ground := Ground.phase }, { on := 5, ground := Ground.phase }, { on := 6, ground := Ground.phase }, { on := 7, ground := Ground.phase }], guard := none }) rfl (fun K hK => ?_) (AllReadyH.nil)
                  rw [if_pos (by rfl)]
                  refine wp_store_ob 27 (.tmp 9) (.tmp 99) B2 (dvCells (.slice a1 d.pages.length c1) (placeR (⟨d.pages, d.writes + 1, d.unread, d.dead, lt⟩ : Dv) (kt : Int) s 256) (.slice au9 (placeR (⟨d.pages, d.writes + 1, d.unread, d.dead, lt⟩ : Dv) (kt : Int) s 256).unread.length cu9) (.slice af lt.length cf)) (dvCells (.slice a1 d.pages.length c1) (⟨d.pages, d.writes + 1, d.unread, d.dead, lt⟩ : Dv) (.slice au (⟨d.pages, d.writes + 1, d.unread, d.dead, lt⟩ : Dv).unread.length cu) (.slice af lt.length cf)) 27 rfl rfl rfl rfl ((HS82.out).get 4 rfl) (info_dv) (rfl) ((oneCell_dv _ _ _ _ _ _ _ _ _ _)) ?_
                  have HS83 : Hid (Hp w [.ob (w.heap.size) 27 (dvCells (.slice pa d.pages.length pc) d (.slice ua d.unread.length uc) (.slice fa d.faults.length fc)), .ob B1 27 (dvCells nilS dvNil nilS nilS), .sl ((.slice a1 d.pages.length c1)) 9 1 ((placeR (⟨d.pages, d.writes + 1, d.unread, d.dead, lt⟩ : Dv) (kt : Int) s 256).pages.length) (strRow (placeR (⟨d.pages, d.writes + 1, d.unread, d.dead, lt⟩ : Dv) (kt : Int) s 256).pages), .sl ((.slice au9 (placeR (⟨d.pages, d.writes + 1, d.unread, d.dead, lt⟩ : Dv) (kt : Int) s 256).unread.length cu9)) 3 1 ((placeR (⟨d.pages, d.writes + 1, d.unread, d.dead, lt⟩ : Dv) (kt : Int) s 256).unread.length) (intRow (placeR (⟨d.pages, d.writes + 1, d.unread, d.dead, lt⟩ : Dv) (kt : Int) s 256).unread), .ob B2 27 (dvCells (.slice a1 d.pages.length c1) (placeR (⟨d.pages, d.writes + 1, d.unread, d.dead, lt⟩ : Dv) (kt : Int) s 256) (.slice au9 (placeR (⟨d.pages, d.writes + 1, d.unread, d.dead, lt⟩ : Dv) (kt : Int) s 256).unread.length cu9) (.slice af lt.length cf)), .sl ((.slice (some ⟨gq, 0, none⟩) nw.length c0)) 29 6 (nw.length) (fltRow nw), .sl ((.slice af lt.length cf)) 29 6 (lt.length) (fltRow lt)] (w82.setRow B2 (dvCells (.slice a1 d.pages.length c1) (placeR (⟨d.pages, d.writes + 1, d.unread, d.dead, lt⟩ : Dv) (kt : Int) s 256) (.slice au9 (placeR (⟨d.pages, d.writes + 1, d.unread, d.dead, lt⟩ : Dv) (kt : Int) s 256).unread.length cu9) (.slice af lt.length cf)).toArray)) := (HS82.out).row 4 rfl (dvCells (.slice a1 d.pages.length c1) (placeR (⟨d.pages, d.writes + 1, d.unread, d.dead, lt⟩ : Dv) (kt : Int) s 256) (.slice au9 (placeR (⟨d.pages, d.writes + 1, d.unread, d.dead, lt⟩ : Dv) (kt : Int) s 256).unread.length cu9) (.slice af lt.length cf))
                  refine hK.out _ _ (own_range (HS83.out.own 5 rfl) rfl (i * 6) (fltCells ⟨x.kind, x.at_, x.page, (kt : Int), x.byte, x.mask⟩) HF2.out) (fun hHeld => ?_)
                  clear hK K
                  generalize (w82.setRow B2 (dvCells (.slice a1 d.pages.length c1) (placeR (⟨d.pages, d.writes + 1, d.unread, d.dead, lt⟩ : Dv) (kt : Int) s 256) (.slice au9 (placeR (⟨d.pages, d.writes + 1, d.unread, d.dead, lt⟩ : Dv) (kt : Int) s 256).unread.length cu9) (.slice af lt.length cf)).toArray) = w83 at *
                  try simp only [Act.put, List.setIfInBounds_toArray, List.set_cons_zero, List.set_cons_succ]
                  refine wpAnyH_done (by kernel_rfl) ?_ _
                  clear hHeld
                  go_wp2_with fail
                  go_roundw
                  case rel => exact ⟨true, (placeR (⟨d.pages, d.writes + 1, d.unread, d.dead, lt⟩ : Dv) (kt : Int) s 256), au9, cu9, i + 1, rfl, by go_num, HLt.out, HN.out, HS83.out⟩
                  case measure => simp [intOf]; have := HLt.out; omega
                have k2b : (x.kind == 2) = false := by rw [beq_eq_false_iff_ne]; exact k2
                by_cases k3 : x.kind = 3
                · obtain ⟨kt, hkt⟩ := Int.eq_ofNat_of_zero_le HXr.out.2.1.1
                  have HKt : Hid (kt < 256) := Lib.hid (by have := HXr.out; omega)
                  have HF2 : Hid (∀ t v, (fltCells ⟨x.kind, x.at_, x.page, x.target, (kt : Int), x.mask⟩)[t]? = some v → (fltRow nw)[i * 6 + t]? = some v) := Lib.hid (by have := HFl.out; rw [show x = ⟨x.kind, x.at_, x.page, x.target, (kt : Int), x.mask⟩ from by rw [← hkt]] at this; exact this)
                  have HN : Hid (LandSt (⟨d.pages, d.writes + 1, d.unread, d.dead, lt⟩ : Dv) k s nw (i + 1) true (placeR (⟨d.pages, d.writes + 1, d.unread, d.dead, lt⟩ : Dv) (k : Int) s kt)) := Lib.hid (by have := LandSt.torn HLx.out k3 HSt.out; rw [hkt] at this; exact this)
                  have k3b : (x.kind == 3) = true := by rw [k3]; rfl
                  clear k3 HSt hkt HFl k1 k2
                  go_upto_region 29 with (fail)
                  clear e0
                  refine wp_region_held_drew (S := fun w' => w'.rangeAt gq (i * 6) (fltCells ⟨x.kind, x.at_, x.page, x.target, (kt : Int), x.mask⟩)) (by kernel_rfl) (own_range ((HQ.out).drew.own 5 rfl) rfl (i * 6) (fltCells ⟨x.kind, x.at_, x.page, x.target, (kt : Int), x.mask⟩) HF2.out) (fun hHeld => ?_)
                  refine wpAnyH_take (i := 1) (oi := { dst := some 103, op := Op.move (Operand.tmp 1), type := 3, pos := "ref.go:197", after := #[], guard := none }) (v := ?q15v) rfl (by kernel_rfl) (by kernel_rfl) (by kernel_rfl) (fun _ _ _ h => h) (Or.inl ⟨by rfl, ?q15h⟩) hHeld ?q15r
                  case q15h => (intro wq hSw; clear hSw; go_simp; try with_reducible rfl)
                  try simp only [Act.put, List.setIfInBounds_toArray, List.set_cons_zero, List.set_cons_succ]
                  refine wpAnyH_take (i := 2) (oi := { dst := some 104, op := Op.move (Operand.tmp 2), type := 9, pos := "ref.go:197", after := #[], guard := none }) (v := ?q16v) rfl (by kernel_rfl) (by kernel_rfl) (by kernel_rfl) (fun _ _ _ h => h) (Or.inl ⟨by rfl, ?q16h⟩) hHeld ?q16r
                  case q16h => (intro wq hSw; clear hSw; go_simp; try with_reducible rfl)
                  try simp only [Act.put, List.setIfInBounds_toArray, List.set_cons_zero, List.set_cons_succ]
                  refine wpAnyH_take (i := 3) (oi := { dst := some 105, op := Op.move (Operand.tmp 10), type := 25, pos := "ref.go:197", after := #[], guard := none }) (v := ?q17v) rfl (by kernel_rfl) (by kernel_rfl) (by kernel_rfl) (fun _ _ _ h => h) (Or.inl ⟨by rfl, ?q17h⟩) hHeld ?q17r
                  case q17h => (intro wq hSw; clear hSw; go_simp; try with_reducible rfl)
                  try simp only [Act.put, List.setIfInBounds_toArray, List.set_cons_zero, List.set_cons_succ]
                  refine wpAnyH_take (i := 4) (oi := { dst := some 106, op := Op.move (Operand.tmp 13), type := 3, pos := "ref.go:197", after := #[], guard := none }) (v := ?q18v) rfl (by kernel_rfl) (by kernel_rfl) (by kernel_rfl) (fun _ _ _ h => h) (Or.inl ⟨by rfl, ?q18h⟩) hHeld ?q18r
                  case q18h => (intro wq hSw; clear hSw; go_simp; try with_reducible rfl)
                  try simp only [Act.put, List.setIfInBounds_toArray, List.set_cons_zero, List.set_cons_succ]
                  refine wpAnyH_take (i := 5) (oi := { dst := some 107, op := Op.indexAddr 25 (Operand.tmp 105) (Operand.tmp 106), type := 0, pos := "ref.go:197", after := #[{ on := 3, ground := Ground.data }, { on := 4, ground := Ground.data }], guard := none }) (v := ?q19v) rfl (by kernel_rfl) (by kernel_rfl) (by kernel_rfl) (fun _ _ _ h => h) (Or.inl ⟨by rfl, ?q19h⟩) hHeld ?q19r
                  case q19h => (intro wq hSw; clear hSw; go_simp; try with_reducible rfl)
                  try simp only [Act.put, List.setIfInBounds_toArray, List.set_cons_zero, List.set_cons_succ]
                  refine wpAnyH_take (i := 6) (oi := { dst := some 108, op := Op.fieldAddr 29 (Operand.tmp 107) 4, type := 0, pos := "ref.go:197", after := #[{ on := 5, ground := Ground.data }], guard := none }) (v := ?q20v) rfl (by kernel_rfl) (by kernel_rfl) (by kernel_rfl) (fun _ _ _ h => h) (Or.inl ⟨by rfl, ?q20h⟩) hHeld ?q20r
                  case q20h => (intro wq hSw; clear hSw; go_simp; try with_reducible rfl)
                  try simp only [Act.put, List.setIfInBounds_toArray, List.set_cons_zero, List.set_cons_succ]
                  refine wpAnyH_take (i := 7) (oi := { dst := some 109, op := Op.load 3 (Operand.tmp 108), type := 3, pos := "ref.go:197", after := #[{ on := 6, ground := Ground.data }], guard := none }) (v := .int .i64 (kt : Int)) rfl (by kernel_rfl) (by kernel_rfl) (by kernel_rfl) (fun _ _ _ h => h) (Or.inl ⟨by rfl, ?q21h⟩) hHeld ?q21r
                  case q21h => (intro wq hSw; have qL := hSw 4 _ rfl; clear hSw; go_simp; try with_reducible rfl)
                  try simp only [Act.put, List.setIfInBounds_toArray, List.set_cons_zero, List.set_cons_succ]
                  refine wpAnyH_ready (rs := [0]) (by kernel_rfl) (by simp) ?_
                  refine AllReadyH.cons (o := { dst := some 102, op := Op.load 27 (Operand.tmp 9), type := 27, pos := "ref.go:197", after := #[], guard := none }) rfl (fun K hK => ?_) (AllReadyH.nil)
                  rw [if_pos (by rfl)]
                  refine wp_load_ob 27 (.tmp 9) B2 (dvCells (.slice a1 d.pages.length c1) (⟨d.pages, d.writes + 1, d.unread, d.dead, lt⟩ : Dv) (.slice au (⟨d.pages, d.writes + 1, d.unread, d.dead, lt⟩ : Dv).unread.length cu) (.slice af lt.length cf)) 27 HUD.out rfl rfl (((HQ.out).drew).get 4 rfl) rfl (info_dv) ?_
                  have HS81 : Hid (Hp w [.ob (w.heap.size) 27 (dvCells (.slice pa d.pages.length pc) d (.slice ua d.unread.length uc) (.slice fa d.faults.length fc)), .ob B1 27 (dvCells nilS dvNil nilS nilS), .sl ((.slice a1 d.pages.length c1)) 9 1 ((⟨d.pages, d.writes + 1, d.unread, d.dead, lt⟩ : Dv).pages.length) (strRow (⟨d.pages, d.writes + 1, d.unread, d.dead, lt⟩ : Dv).pages), .sl ((.slice au (⟨d.pages, d.writes + 1, d.unread, d.dead, lt⟩ : Dv).unread.length cu)) 3 1 ((⟨d.pages, d.writes + 1, d.unread, d.dead, lt⟩ : Dv).unread.length) (intRow (⟨d.pages, d.writes + 1, d.unread, d.dead, lt⟩ : Dv).unread), .ob B2 27 (dvCells (.slice a1 d.pages.length c1) (⟨d.pages, d.writes + 1, d.unread, d.dead, lt⟩ : Dv) (.slice au (⟨d.pages, d.writes + 1, d.unread, d.dead, lt⟩ : Dv).unread.length cu) (.slice af lt.length cf)), .sl ((.slice (some ⟨gq, 0, none⟩) nw.length c0)) 29 6 (nw.length) (fltRow nw), .sl ((.slice af lt.length cf)) 29 6 (lt.length) (fltRow lt)] (wr.drew)) := (HQ.out).drew
                  refine hK.out _ _ (own_range (HS81.out.own 5 rfl) rfl (i * 6) (fltCells ⟨x.kind, x.at_, x.page, x.target, (kt : Int), x.mask⟩) HF2.out) (fun hHeld => ?_)
                  clear hK K
                  generalize wr.drew = w81 at *
                  try simp only [Act.put, List.setIfInBounds_toArray, List.set_cons_zero, List.set_cons_succ]
                  refine wpAnyH_ready (rs := [8]) (by kernel_rfl) (by simp) ?_
                  refine AllReadyH.cons (o := { dst := some 110, op := Op.call { callee := Callee.value (Operand.func 48), args := #[Operand.tmp 102, Operand.tmp 103, Operand.tmp 104, Operand.tmp 109], argTypes := #[27, 3, 9, 3] }, type := 27, pos := "ref.go:197", after := #[{ on := 0, ground := Ground.data }, { on := 1, ground := Ground.data }, { on := 2, ground := Ground.data }, { on := 7, ground := Ground.data }], guard := none }) rfl (fun K hK => ?_) (AllReadyH.nil)
                  have h7 : Hp w [.sl ((.slice a1 d.pages.length c1)) 9 1 ((⟨d.pages, d.writes + 1, d.unread, d.dead, lt⟩ : Dv).pages.length) (strRow (⟨d.pages, d.writes + 1, d.unread, d.dead, lt⟩ : Dv).pages), .sl ((.slice au (⟨d.pages, d.writes + 1, d.unread, d.dead, lt⟩ : Dv).unread.length cu)) 3 1 ((⟨d.pages, d.writes + 1, d.unread, d.dead, lt⟩ : Dv).unread.length) (intRow (⟨d.pages, d.writes + 1, d.unread, d.dead, lt⟩ : Dv).unread), .ob (w.heap.size) 27 (dvCells (.slice pa d.pages.length pc) d (.slice ua d.unread.length uc) (.slice fa d.faults.length fc)), .ob B1 27 (dvCells nilS dvNil nilS nilS), .ob B2 27 (dvCells (.slice a1 d.pages.length c1) (⟨d.pages, d.writes + 1, d.unread, d.dead, lt⟩ : Dv) (.slice au (⟨d.pages, d.writes + 1, d.unread, d.dead, lt⟩ : Dv).unread.length cu) (.slice af lt.length cf)), .sl ((.slice (some ⟨gq, 0, none⟩) nw.length c0)) 29 6 (nw.length) (fltRow nw), .sl ((.slice af lt.length cf)) 29 6 (lt.length) (fltRow lt)] w81 := (HS81.out).pull [2, 3, 0, 1, 4, 5, 6] rfl (pull_nd (HS81.out).nd [2, 3, 0, 1, 4, 5, 6] rfl (by decide))
                  have hpl := place_any (d := (⟨d.pages, d.writes + 1, d.unread, d.dead, lt⟩ : Dv)) (fa := af) (fl := lt.length) (fc := cf) s k kt h7 HKn.out HOk.out.1.all HSz.out (Nat.le_of_lt HKt.out) (by have := HOk.out.1.few; show d.unread.length ≤ 1000; omega)
                  go_simp
                  go_wp2_with (go_at_call 48; refine hpl.mono ?_; rintro e w82 ⟨u9, rfl, h9⟩)
                  obtain ⟨au9, cu9, rfl⟩ := own_slice (h9.own 1 rfl)
                  have HS82 : Hid (Hp w [.ob (w.heap.size) 27 (dvCells (.slice pa d.pages.length pc) d (.slice ua d.unread.length uc) (.slice fa d.faults.length fc)), .ob B1 27 (dvCells nilS dvNil nilS nilS), .sl ((.slice a1 d.pages.length c1)) 9 1 ((placeR (⟨d.pages, d.writes + 1, d.unread, d.dead, lt⟩ : Dv) (k : Int) s kt).pages.length) (strRow (placeR (⟨d.pages, d.writes + 1, d.unread, d.dead, lt⟩ : Dv) (k : Int) s kt).pages), .sl ((.slice au9 (placeR (⟨d.pages, d.writes + 1, d.unread, d.dead, lt⟩ : Dv) (k : Int) s kt).unread.length cu9)) 3 1 ((placeR (⟨d.pages, d.writes + 1, d.unread, d.dead, lt⟩ : Dv) (k : Int) s kt).unread.length) (intRow (placeR (⟨d.pages, d.writes + 1, d.unread, d.dead, lt⟩ : Dv) (k : Int) s kt).unread), .ob B2 27 (dvCells (.slice a1 d.pages.length c1) (⟨d.pages, d.writes + 1, d.unread, d.dead, lt⟩ : Dv) (.slice au (⟨d.pages, d.writes + 1, d.unread, d.dead, lt⟩ : Dv).unread.length cu) (.slice af lt.length cf)), .sl ((.slice (some ⟨gq, 0, none⟩) nw.length c0)) 29 6 (nw.length) (fltRow nw), .sl ((.slice af lt.length cf)) 29 6 (lt.length) (fltRow lt)] w82) := h9.pull [2, 3, 0, 1, 4, 5, 6] rfl (pull_nd h9.nd [2, 3, 0, 1, 4, 5, 6] rfl (by decide))
                  refine hK.out _ _ (own_range (HS82.out.own 5 rfl) rfl (i * 6) (fltCells ⟨x.kind, x.at_, x.page, x.target, (kt : Int), x.mask⟩) HF2.out) (fun hHeld => ?_)
                  clear hK K h9 hpl h7
                  try simp only [Act.put, List.setIfInBounds_toArray, List.set_cons_zero, List.set_cons_succ]
                  refine wpAnyH_ready (rs := [9]) (by kernel_rfl) (by simp) ?_
                  refine AllReadyH.cons (o := { dst := none, op := Op.store 27 (Operand.tmp 9) (Operand.tmp 110), type := 0, pos := "ref.go:197", after := #[{ on := 8, ground := Ground.data }, { on := 8, ground := Ground.chain }, { on := 0, ground := Ground.phase }, { on := 1, ground := Ground.phase }, { on := 2, ground := Ground.phase }, { on := 3, ground := Ground.phase }, { on := 4, ground := Ground.phase }, { on := 5, ground := Ground.phase }, { on := 6, ground := Ground.phase }, { on := 7, ground := Ground.phase }, { on := 8, ground := Ground.phase }], guard := none }) rfl (fun K hK => ?_) (AllReadyH.nil)
                  rw [if_pos (by rfl)]
                  refine wp_store_ob 27 (.tmp 9) (.tmp 110) B2 (dvCells (.slice a1 d.pages.length c1) (placeR (⟨d.pages, d.writes + 1, d.unread, d.dead, lt⟩ : Dv) (k : Int) s kt) (.slice au9 (placeR (⟨d.pages, d.writes + 1, d.unread, d.dead, lt⟩ : Dv) (k : Int) s kt).unread.length cu9) (.slice af lt.length cf)) (dvCells (.slice a1 d.pages.length c1) (⟨d.pages, d.writes + 1, d.unread, d.dead, lt⟩ : Dv) (.slice au (⟨d.pages, d.writes + 1, d.unread, d.dead, lt⟩ : Dv).unread.length cu) (.slice af lt.length cf)) 27 rfl rfl rfl rfl ((HS82.out).get 4 rfl) (info_dv) (rfl) ((oneCell_dv _ _ _ _ _ _ _ _ _ _)) ?_
                  have HS83 : Hid (Hp w [.ob (w.heap.size) 27 (dvCells (.slice pa d.pages.length pc) d (.slice ua d.unread.length uc) (.slice fa d.faults.length fc)), .ob B1 27 (dvCells nilS dvNil nilS nilS), .sl ((.slice a1 d.pages.length c1)) 9 1 ((placeR (⟨d.pages, d.writes + 1, d.unread, d.dead, lt⟩ : Dv) (k : Int) s kt).pages.length) (strRow (placeR (⟨d.pages, d.writes + 1, d.unread, d.dead, lt⟩ : Dv) (k : Int) s kt).pages), .sl ((.slice au9 (placeR (⟨d.pages, d.writes + 1, d.unread, d.dead, lt⟩ : Dv) (k : Int) s kt).unread.length cu9)) 3 1 ((placeR (⟨d.pages, d.writes + 1, d.unread, d.dead, lt⟩ : Dv) (k : Int) s kt).unread.length) (intRow (placeR (⟨d.pages, d.writes + 1, d.unread, d.dead, lt⟩ : Dv) (k : Int) s kt).unread), .ob B2 27 (dvCells (.slice a1 d.pages.length c1) (placeR (⟨d.pages, d.writes + 1, d.unread, d.dead, lt⟩ : Dv) (k : Int) s kt) (.slice au9 (placeR (⟨d.pages, d.writes + 1, d.unread, d.dead, lt⟩ : Dv) (k : Int) s kt).unread.length cu9) (.slice af lt.length cf)), .sl ((.slice (some ⟨gq, 0, none⟩) nw.length c0)) 29 6 (nw.length) (fltRow nw), .sl ((.slice af lt.length cf)) 29 6 (lt.length) (fltRow lt)] (w82.setRow B2 (dvCells (.slice a1 d.pages.length c1) (placeR (⟨d.pages, d.writes + 1, d.unread, d.dead, lt⟩ : Dv) (k : Int) s kt) (.slice au9 (placeR (⟨d.pages, d.writes + 1, d.unread, d.dead, lt⟩ : Dv) (k : Int) s kt).unread.length cu9) (.slice af lt.length cf)).toArray)) := (HS82.out).row 4 rfl (dvCells (.slice a1 d.pages.length c1) (placeR (⟨d.pages, d.writes + 1, d.unread, d.dead, lt⟩ : Dv) (k : Int) s kt) (.slice au9 (placeR (⟨d.pages, d.writes + 1, d.unread, d.dead, lt⟩ : Dv) (k : Int) s kt).unread.length cu9) (.slice af lt.length cf))
                  refine hK.out _ _ (own_range (HS83.out.own 5 rfl) rfl (i * 6) (fltCells ⟨x.kind, x.at_, x.page, x.target, (kt : Int), x.mask⟩) HF2.out) (fun hHeld => ?_)
                  clear hK K
                  generalize (w82.setRow B2 (dvCells (.slice a1 d.pages.length c1) (placeR (⟨d.pages, d.writes + 1, d.unread, d.dead, lt⟩ : Dv) (k : Int) s kt) (.slice au9 (placeR (⟨d.pages, d.writes + 1, d.unread, d.dead, lt⟩ : Dv) (k : Int) s kt).unread.length cu9) (.slice af lt.length cf)).toArray) = w83 at *
                  try simp only [Act.put, List.setIfInBounds_toArray, List.set_cons_zero, List.set_cons_succ]
                  refine wpAnyH_done (by kernel_rfl) ?_ _
                  clear hHeld
                  go_wp2_with fail
                  go_roundw
                  case rel => exact ⟨true, (placeR (⟨d.pages, d.writes + 1, d.unread, d.dead, lt⟩ : Dv) (k : Int) s kt), au9, cu9, i + 1, rfl, by go_num, HLt.out, HN.out, HS83.out⟩
                  case measure => simp [intOf]; have := HLt.out; omega
                have k3b : (x.kind == 3) = false := by rw [beq_eq_false_iff_ne]; exact k3
                have HN : Hid (LandSt (⟨d.pages, d.writes + 1, d.unread, d.dead, lt⟩ : Dv) k s nw (i + 1) false (⟨d.pages, d.writes + 1, d.unread, d.dead, lt⟩ : Dv)) := Lib.hid (LandSt.none HLx.out k1 k2 k3 HSt.out)
                clear HSt k1 k2 k3
                go_wp2_with fail
                go_roundw
                case rel => exact ⟨false, (⟨d.pages, d.writes + 1, d.unread, d.dead, lt⟩ : Dv), au, cu, i + 1, rfl, by go_num, HLt.out, HN.out, HQ.out⟩
                case measure => simp [intOf]; have := HLt.out; omega
            case rest =>
              obtain ⟨dn, dd, au, cu, rfl, hend, hs⟩ := hcut
              have HEnd := Lib.hid hend
              clear HQ6
              have HQ := Lib.hid hs
              clear hend hs
              obtain ⟨E, hE⟩ : ∃ E, landR (⟨d.pages, d.writes + 1, d.unread, d.dead, lt⟩ : Dv) k s nw = E := ⟨_, rfl⟩
              have HE := Lib.hid hE
              have HI : Hid (DvInv d.pages.length 64 E) := Lib.hid (by rw [← hE]; exact land_inv (d := (⟨d.pages, d.writes + 1, d.unread, d.dead, lt⟩ : Dv)) ⟨HOk.out.1.num, HOk.out.1.all, HOk.out.1.asc, HOk.out.1.few⟩ (k : Int) ⟨by omega, by have := HKn.out; omega⟩ s HSz.out nw (fun x hx => ⟨(HRg.out x hx).1, (HRg.out x hx).2.1⟩))
              have HFe : Hid (E.faults = lt) := Lib.hid (by rw [← hE, land_faults])
              have HWr2 : Hid (writeR d k s = (nw.foldl happenR E, 0)) := Lib.hid (by rw [← hE]; exact HWr.out)
              clear hE HWr
              generalize wc = w40 at *
              go_upto_if 112 with (fail)
              go_cut [] (fun wy => ∃ (au : Option Addr) (cu : Nat), Hp w [.ob (w.heap.size) 27 (dvCells (.slice pa d.pages.length pc) d (.slice ua d.unread.length uc) (.slice fa d.faults.length fc)), .ob B1 27 (dvCells nilS dvNil nilS nilS), .sl ((.slice a1 d.pages.length c1)) 9 1 (E.pages.length) (strRow E.pages), .sl ((.slice au E.unread.length cu)) 3 1 (E.unread.length) (intRow E.unread), .ob B2 27 (dvCells (.slice a1 d.pages.length c1) E (.slice au E.unread.length cu) (.slice af lt.length cf)), .sl ((.slice a0 nw.length c0)) 29 6 (nw.length) (fltRow nw), .sl ((.slice af lt.length cf)) 29 6 (lt.length) (fltRow lt)] wy)
              case first =>
                cases dn
                · obtain ⟨hd2, hp2⟩ := HEnd.out
                  subst hd2
                  have HP3 : Hid (placeR (⟨d.pages, d.writes + 1, d.unread, d.dead, lt⟩ : Dv) (k : Int) s 256 = E) := Lib.hid (by rw [← hp2]; exact HE.out)
                  clear HEnd HE hp2
                  have h7 : Hp w [.sl ((.slice a1 d.pages.length c1)) 9 1 ((⟨d.pages, d.writes + 1, d.unread, d.dead, lt⟩ : Dv).pages.length) (strRow (⟨d.pages, d.writes + 1, d.unread, d.dead, lt⟩ : Dv).pages), .sl ((.slice au (⟨d.pages, d.writes + 1, d.unread, d.dead, lt⟩ : Dv).unread.length cu)) 3 1 ((⟨d.pages, d.writes + 1, d.unread, d.dead, lt⟩ : Dv).unread.length) (intRow (⟨d.pages, d.writes + 1, d.unread, d.dead, lt⟩ : Dv).unread), .ob (w.heap.size) 27 (dvCells (.slice pa d.pages.length pc) d (.slice ua d.unread.length uc) (.slice fa d.faults.length fc)), .ob B1 27 (dvCells nilS dvNil nilS nilS), .ob B2 27 (dvCells (.slice a1 d.pages.length c1) (⟨d.pages, d.writes + 1, d.unread, d.dead, lt⟩ : Dv) (.slice au (⟨d.pages, d.writes + 1, d.unread, d.dead, lt⟩ : Dv).unread.length cu) (.slice af lt.length cf)), .sl ((.slice a0 nw.length c0)) 29 6 (nw.length) (fltRow nw), .sl ((.slice af lt.length cf)) 29 6 (lt.length) (fltRow lt)] w40 := (HQ.out).pull [2, 3, 0, 1, 4, 5, 6] rfl (pull_nd (HQ.out).nd [2, 3, 0, 1, 4, 5, 6] rfl (by decide))
                  have hpl := place_any (d := (⟨d.pages, d.writes + 1, d.unread, d.dead, lt⟩ : Dv)) (fa := af) (fl := lt.length) (fc := cf) s k 256 h7 HKn.out HOk.out.1.all HSz.out (Nat.le_refl _) (by have := HOk.out.1.few; show d.unread.length ≤ 1000; omega)
                  have HPl := Lib.hid hpl
                  clear h7 hpl
                  go_wp2_with (first | ((with_reducible refine wpList_load_ob 27 (.tmp 9) B2 (dvCells (.slice a1 d.pages.length c1) (⟨d.pages, d.writes + 1, d.unread, d.dead, lt⟩ : Dv) (.slice au (⟨d.pages, d.writes + 1, d.unread, d.dead, lt⟩ : Dv).unread.length cu) (.slice af lt.length cf)) 27 HUD.out ?_ ?_ ?_ ?_ ?_); (exact rfl); (exact (HQ.out).get 4 rfl); (exact rfl); (exact info_dv); simp only [Act.put, List.setIfInBounds_toArray, List.set_cons_zero, List.set_cons_succ]))
                  refine (HPl.out).mono ?_
                  rintro e w121 ⟨u9, rfl, h9⟩
                  obtain ⟨au9, cu9, rfl⟩ := own_slice (h9.own 1 rfl)
                  have HS121 : Hid (Hp w [.ob (w.heap.size) 27 (dvCells (.slice pa d.pages.length pc) d (.slice ua d.unread.length uc) (.slice fa d.faults.length fc)), .ob B1 27 (dvCells nilS dvNil nilS nilS), .sl ((.slice a1 d.pages.length c1)) 9 1 ((placeR (⟨d.pages, d.writes + 1, d.unread, d.dead, lt⟩ : Dv) (k : Int) s 256).pages.length) (strRow (placeR (⟨d.pages, d.writes + 1, d.unread, d.dead, lt⟩ : Dv) (k : Int) s 256).pages), .sl ((.slice au9 (placeR (⟨d.pages, d.writes + 1, d.unread, d.dead, lt⟩ : Dv) (k : Int) s 256).unread.length cu9)) 3 1 ((placeR (⟨d.pages, d.writes + 1, d.unread, d.dead, lt⟩ : Dv) (k : Int) s 256).unread.length) (intRow (placeR (⟨d.pages, d.writes + 1, d.unread, d.dead, lt⟩ : Dv) (k : Int) s 256).unread), .ob B2 27 (dvCells (.slice a1 d.pages.length c1) (⟨d.pages, d.writes + 1, d.unread, d.dead, lt⟩ : Dv) (.slice au (⟨d.pages, d.writes + 1, d.unread, d.dead, lt⟩ : Dv).unread.length cu) (.slice af lt.length cf)), .sl ((.slice a0 nw.length c0)) 29 6 (nw.length) (fltRow nw), .sl ((.slice af lt.length cf)) 29 6 (lt.length) (fltRow lt)] w121) := h9.pull [2, 3, 0, 1, 4, 5, 6] rfl (pull_nd h9.nd [2, 3, 0, 1, 4, 5, 6] rfl (by decide))
                  clear h9
                  clear HQ
                  go_wp2_with (first | ((with_reducible refine wpList_store_ob 27 (.tmp 9) B2 (dvCells (.slice a1 d.pages.length c1) (placeR (⟨d.pages, d.writes + 1, d.unread, d.dead, lt⟩ : Dv) (k : Int) s 256) (.slice au9 (placeR (⟨d.pages, d.writes + 1, d.unread, d.dead, lt⟩ : Dv) (k : Int) s 256).unread.length cu9) (.slice af lt.length cf)) (dvCells (.slice a1 d.pages.length c1) (⟨d.pages, d.writes + 1, d.unread, d.dead, lt⟩ : Dv) (.slice au (⟨d.pages, d.writes + 1, d.unread, d.dead, lt⟩ : Dv).unread.length cu) (.slice af lt.length cf)) 27 ?_ ?_ ?_ ?_ ?_ ?_ ?_); (exact rfl); (exact rfl); (exact (HS121.out).get 4 rfl); (exact info_dv); (exact rfl); (exact (oneCell_dv _ _ _ _ _ _ _ _ _ _)); skip))
                  have HS122 : Hid (Hp w [.ob (w.heap.size) 27 (dvCells (.slice pa d.pages.length pc) d (.slice ua d.unread.length uc) (.slice fa d.faults.length fc)), .ob B1 27 (dvCells nilS dvNil nilS nilS), .sl ((.slice a1 d.pages.length c1)) 9 1 ((placeR (⟨d.pages, d.writes + 1, d.unread, d.dead, lt⟩ : Dv) (k : Int) s 256).pages.length) (strRow (placeR (⟨d.pages, d.writes + 1, d.unread, d.dead, lt⟩ : Dv) (k : Int) s 256).pages), .sl ((.slice au9 (placeR (⟨d.pages, d.writes + 1, d.unread, d.dead, lt⟩ : Dv) (k : Int) s 256).unread.length cu9)) 3 1 ((placeR (⟨d.pages, d.writes + 1, d.unread, d.dead, lt⟩ : Dv) (k : Int) s 256).unread.length) (intRow (placeR (⟨d.pages, d.writes + 1, d.unread, d.dead, lt⟩ : Dv) (k : Int) s 256).unread), .ob B2 27 (dvCells (.slice a1 d.pages.length c1) (placeR (⟨d.pages, d.writes + 1, d.unread, d.dead, lt⟩ : Dv) (k : Int) s 256) (.slice au9 (placeR (⟨d.pages, d.writes + 1, d.unread, d.dead, lt⟩ : Dv) (k : Int) s 256).unread.length cu9) (.slice af lt.length cf)), .sl ((.slice a0 nw.length c0)) 29 6 (nw.length) (fltRow nw), .sl ((.slice af lt.length cf)) 29 6 (lt.length) (fltRow lt)] (w121.setRow B2 (dvCells (.slice a1 d.pages.length c1) (placeR (⟨d.pages, d.writes + 1, d.unread, d.dead, lt⟩ : Dv) (k : Int) s 256) (.slice au9 (placeR (⟨d.pages, d.writes + 1, d.unread, d.dead, lt⟩ : Dv) (k : Int) s 256).unread.length cu9) (.slice af lt.length cf)).toArray)) := (HS121.out).row 4 rfl (dvCells (.slice a1 d.pages.length c1) (placeR (⟨d.pages, d.writes + 1, d.unread, d.dead, lt⟩ : Dv) (k : Int) s 256) (.slice au9 (placeR (⟨d.pages, d.writes + 1, d.unread, d.dead, lt⟩ : Dv) (k : Int) s 256).unread.length cu9) (.slice af lt.length cf))
                  clear HS121
                  generalize (w121.setRow B2 (dvCells (.slice a1 d.pages.length c1) (placeR (⟨d.pages, d.writes + 1, d.unread, d.dead, lt⟩ : Dv) (k : Int) s 256) (.slice au9 (placeR (⟨d.pages, d.writes + 1, d.unread, d.dead, lt⟩ : Dv) (k : Int) s 256).unread.length cu9) (.slice af lt.length cf)).toArray) = w122 at *
                  have HZ9 := HS122.out
                  rw [HP3.out] at HZ9
                  go_meet
                  exact ⟨au9, cu9, HZ9⟩
                · obtain rfl : dd = E := Eq.trans (show dd = landR (⟨d.pages, d.writes + 1, d.unread, d.dead, lt⟩ : Dv) k s nw from HEnd.out) HE.out
                  go_wp2_with fail
                  go_meet
                  exact ⟨au, cu, HQ.out⟩
              case rest =>
                obtain ⟨au2, cu2, hs⟩ := hcut
                clear HQ HEnd HE
                have HQ3 := Lib.hid hs
                clear hs
                generalize wc = w41 at *
                obtain ⟨pv, hpv⟩ : ∃ pv : Value, (.slice a1 d.pages.length c1) = pv := ⟨_, rfl⟩
                rw [hpv] at HQ3
                clear hpv
                go_wp2_with fail
                go_loopw [14] (fun si wy => ∃ (au : Option Addr) (cu : Nat) (j : Nat), si = .int .i64 j ∧ j ≤ nw.length ∧ Hp w [.ob (w.heap.size) 27 (dvCells (.slice pa d.pages.length pc) d (.slice ua d.unread.length uc) (.slice fa d.faults.length fc)), .ob B1 27 (dvCells nilS dvNil nilS nilS), .sl pv 9 1 (((nw.take j).foldl happenR E).pages.length) (strRow ((nw.take j).foldl happenR E).pages), .sl ((.slice au ((nw.take j).foldl happenR E).unread.length cu)) 3 1 (((nw.take j).foldl happenR E).unread.length) (intRow ((nw.take j).foldl happenR E).unread), .ob B2 27 (dvCells pv ((nw.take j).foldl happenR E) (.slice au ((nw.take j).foldl happenR E).unread.length cu) (.slice af lt.length cf)), .sl ((.slice a0 nw.length c0)) 29 6 (nw.length) (fltRow nw), .sl ((.slice af lt.length cf)) 29 6 (lt.length) (fltRow lt)] wy) (fun si _ => nw.length - (intOf si).toNat)
                case atStart => exact ⟨au2, cu2, 0, rfl, Nat.zero_le _, HQ3.out⟩
                case round =>
                  obtain ⟨au, cu, j, rfl, hj, hs⟩ := hrel
                  clear HQ3
                  have HQ := Lib.hid hs
                  clear hs
                  have hj0 : (0 : Int) ≤ (j : Int) := by omega
                  have hjm : (j : Int) ≤ 64 := by have := HNn.out; omega
                  by_cases hlt : j < nw.length
                  case neg =>
                    have hji : ¬ (j : Int) < (nw.length : Int) := by omega
                    have HQ4 : Hid (Hp w [.ob (w.heap.size) 27 (dvCells (.slice pa d.pages.length pc) d (.slice ua d.unread.length uc) (.slice fa d.faults.length fc)), .ob B1 27 (dvCells nilS dvNil nilS nilS), .sl pv 9 1 ((nw.foldl happenR E).pages.length) (strRow (nw.foldl happenR E).pages), .sl ((.slice au (nw.foldl happenR E).unread.length cu)) 3 1 ((nw.foldl happenR E).unread.length) (intRow (nw.foldl happenR E).unread), .ob B2 27 (dvCells pv (nw.foldl happenR E) (.slice au (nw.foldl happenR E).unread.length cu) (.slice af lt.length cf)), .sl ((.slice a0 nw.length c0)) 29 6 (nw.length) (fltRow nw), .sl ((.slice af lt.length cf)) 29 6 (lt.length) (fltRow lt)] wr) := by
                      have h := HQ.out
                      rw [show j = nw.length by omega, List.take_length] at h
                      exact Lib.hid h
                    have HFz : Hid ((nw.foldl happenR E).faults = lt) := Lib.hid (by rw [fold_faults]; exact HFe.out)
                    clear HQ hlt hj
                    generalize nw.foldl happenR E = Z at *
                    obtain ⟨ap, cp, rfl⟩ := own_slice (HQ4.out.own 2 rfl)
                    go_wp2_with (first | ((with_reducible refine wpList_load_ob 27 (.tmp 9) B2 (dvCells (.slice ap Z.pages.length cp) Z (.slice au Z.unread.length cu) (.slice af lt.length cf)) 27 HUD.out ?_ ?_ ?_ ?_ ?_); (exact rfl); (exact (HQ4.out).get 4 rfl); (exact rfl); (exact info_dv); simp only [Act.put, List.setIfInBounds_toArray, List.set_cons_zero, List.set_cons_succ]) | ((with_reducible refine wpList_store_ob 27 (.tmp 6) B1 (dvCells (.slice ap Z.pages.length cp) Z (.slice au Z.unread.length cu) (.slice af lt.length cf)) (dvCells nilS dvNil nilS nilS) 27 ?_ ?_ ?_ ?_ ?_ ?_ ?_); (exact rfl); (exact rfl); (exact (HQ4.out).get 1 rfl); (exact info_dv); (exact rfl); (exact (oneCell_dv _ _ _ _ _ _ _ _ _ _)); skip))
                    have HS141 : Hid (Hp w [.ob (w.heap.size) 27 (dvCells (.slice pa d.pages.length pc) d (.slice ua d.unread.length uc) (.slice fa d.faults.length fc)), .ob B1 27 (dvCells (.slice ap Z.pages.length cp) Z (.slice au Z.unread.length cu) (.slice af lt.length cf)), .sl ((.slice ap Z.pages.length cp)) 9 1 (Z.pages.length) (strRow Z.pages), .sl ((.slice au Z.unread.length cu)) 3 1 (Z.unread.length) (intRow Z.unread), .ob B2 27 (dvCells (.slice ap Z.pages.length cp) Z (.slice au Z.unread.length cu) (.slice af lt.length cf)), .sl ((.slice a0 nw.length c0)) 29 6 (nw.length) (fltRow nw), .sl ((.slice af lt.length cf)) 29 6 (lt.length) (fltRow lt)] (wr.setRow B1 (dvCells (.slice ap Z.pages.length cp) Z (.slice au Z.unread.length cu) (.slice af lt.length cf)).toArray)) := (HQ4.out).row 1 rfl (dvCells (.slice ap Z.pages.length cp) Z (.slice au Z.unread.length cu) (.slice af lt.length cf))
                    clear HQ4
                    generalize (wr.setRow B1 (dvCells (.slice ap Z.pages.length cp) Z (.slice au Z.unread.length cu) (.slice af lt.length cf)).toArray) = w141 at *
                    refine bodyPost_ret (results_ob_tmp Try.results21 _ _ B1 (dvCells (.slice ap Z.pages.length cp) Z (.slice au Z.unread.length cu) (.slice af lt.length cf)) 27 _ rfl ((HS141.out).get 1 rfl) HUD.out rfl info_dv) rfl ?_
                    obtain ⟨R', hrd, hin, hnew⟩ := own_dv (d := Z) ((HS141.out).own 2 rfl) ((HS141.out).own 3 rfl) (by rw [HFz.out]; exact (HS141.out).own 6 rfl)
                    rw [HWr2.out]
                    exact ⟨_, _, _, R', rfl, hrd, hin, fun r hr => .inl (hnew r hr), (HS141.out).old⟩
                  case pos =>
                  have hji : (j : Int) < (nw.length : Int) := by omega
                  have ho := HQ.out.own 5 rfl
                  rcases ho.2 with ⟨_, h0⟩ | ⟨gq, cq, curq, hvq, hBq, hgq, hq1, hq2, hq3, hq4⟩
                  · omega
                  have ea : a0 = some ⟨gq, 0, none⟩ := by injection hvq
                  subst ea
                  obtain ⟨x, hx⟩ : ∃ x, nw[j] = x := ⟨_, rfl⟩
                  have HFl : Hid (∀ t v, (fltCells x)[t]? = some v → (fltRow nw)[j * 6 + t]? = some v) := Lib.hid (fun t v hv => fltRow_at nw j hlt t v (by rw [hx]; exact hv))
                  have hxm : x ∈ nw := by rw [← hx]; exact List.getElem_mem hlt
                  have HXr := Lib.hid (HRg.out x hxm)
                  have HXm := Lib.hid (mask_rng (HGn.out x hxm))
                  have HSt : Hid ((nw.take (j + 1)).foldl happenR E = happenR ((nw.take j).foldl happenR E) x) := by
                    show _ = _
                    rw [List.take_succ_eq_append_getElem hlt, List.foldl_append, hx]
                    rfl
                  have hfi := fold_inv (nw.take j) HI.out
                  have HFi : Hid (DvInv d.pages.length 128 ((nw.take j).foldl happenR E)) := Lib.hid ⟨hfi.num, hfi.all, hfi.asc, by have h1 := hfi.few; have h2 := HNn.out; rw [List.length_take] at h1; omega⟩
                  have HLt := Lib.hid hlt
                  clear ho hvq hBq hgq hq1 hq2 hq3 hq4 hxm hx hlt hfi
                  have HQn : Hid (∀ au cu wz, Hp w [.ob (w.heap.size) 27 (dvCells (.slice pa d.pages.length pc) d (.slice ua d.unread.length uc) (.slice fa d.faults.length fc)), .ob B1 27 (dvCells nilS dvNil nilS nilS), .sl pv 9 1 ((happenR ((nw.take j).foldl happenR E) x).pages.length) (strRow (happenR ((nw.take j).foldl happenR E) x).pages), .sl ((.slice au (happenR ((nw.take j).foldl happenR E) x).unread.length cu)) 3 1 ((happenR ((nw.take j).foldl happenR E) x).unread.length) (intRow (happenR ((nw.take j).foldl happenR E) x).unread), .ob B2 27 (dvCells pv (happenR ((nw.take j).foldl happenR E) x) (.slice au (happenR ((nw.take j).foldl happenR E) x).unread.length cu) (.slice af lt.length cf)), .sl ((.slice (some ⟨gq, 0, none⟩) nw.length c0)) 29 6 (nw.length) (fltRow nw), .sl ((.slice af lt.length cf)) 29 6 (lt.length) (fltRow lt)] wz → Hp w [.ob (w.heap.size) 27 (dvCells (.slice pa d.pages.length pc) d (.slice ua d.unread.length uc) (.slice fa d.faults.length fc)), .ob B1 27 (dvCells nilS dvNil nilS nilS), .sl pv 9 1 (((nw.take (j + 1)).foldl happenR E).pages.length) (strRow ((nw.take (j + 1)).foldl happenR E).pages), .sl ((.slice au ((nw.take (j + 1)).foldl happenR E).unread.length cu)) 3 1 (((nw.take (j + 1)).foldl happenR E).unread.length) (intRow ((nw.take (j + 1)).foldl happenR E).unread), .ob B2 27 (dvCells pv ((nw.take (j + 1)).foldl happenR E) (.slice au ((nw.take (j + 1)).foldl happenR E).unread.length cu) (.slice af lt.length cf)), .sl ((.slice (some ⟨gq, 0, none⟩) nw.length c0)) 29 6 (nw.length) (fltRow nw), .sl ((.slice af lt.length cf)) 29 6 (lt.length) (fltRow lt)] wz) := Lib.hid (fun au cu wz h => by rw [HSt.out]; exact h)
                  clear HSt
                  generalize (nw.take j).foldl happenR E = F at *
                  go_upto_region 37 with (first | ((with_reducible refine wpList_load_at 29 (.tmp 125) gq ((j * 6)) (fltCells x) HUF.out ?_ ?_ ?_ ?_ ?_); (exact rfl); (exact own_range ((HQ.out).own 5 rfl) rfl (j * 6) (fltCells x) HFl.out); (exact rfl); (exact info_flt); simp only [Act.put, List.setIfInBounds_toArray, List.set_cons_zero, List.set_cons_succ]) | ((with_reducible refine wpList_alloc_ob 29 (fltCells fltNil) ?_ ?_); (exact alloc_flt); simp only [Act.put, List.setIfInBounds_toArray, List.set_cons_zero, List.set_cons_succ]) | ((with_reducible refine wpList_store_ob 29 (.tmp 15) (wr.heap.size) (fltCells x) (fltCells fltNil) 29 ?_ ?_ ?_ ?_ ?_ ?_ ?_); (exact rfl); (exact rfl); (exact ((HQ.out).put 29 (fltCells fltNil)).get 7 rfl); (exact info_flt); (exact rfl); (exact (oneCell_flt _)); skip))
                  have HS161 : Hid (Hp w [.ob (w.heap.size) 27 (dvCells (.slice pa d.pages.length pc) d (.slice ua d.unread.length uc) (.slice fa d.faults.length fc)), .ob B1 27 (dvCells nilS dvNil nilS nilS), .sl pv 9 1 (F.pages.length) (strRow F.pages), .sl ((.slice au F.unread.length cu)) 3 1 (F.unread.length) (intRow F.unread), .ob B2 27 (dvCells pv F (.slice au F.unread.length cu) (.slice af lt.length cf)), .sl ((.slice (some ⟨gq, 0, none⟩) nw.length c0)) 29 6 (nw.length) (fltRow nw), .sl ((.slice af lt.length cf)) 29 6 (lt.length) (fltRow lt), .ob (wr.heap.size) 29 (fltCells x)] ((wr.alloc (.cells (fltCells fltNil).toArray 29)).setRow (wr.heap.size) (fltCells x).toArray)) := ((HQ.out).put 29 (fltCells fltNil)).row 7 rfl (fltCells x)
                  clear HQ
                  generalize ((wr.alloc (.cells (fltCells fltNil).toArray 29)).setRow (wr.heap.size) (fltCells x).toArray) = w161 at *
                  generalize wr.heap.size = B6 at *
                  clear HFl
                  obtain ⟨kd, at_, pg, tg, by_, ms⟩ := x
                  have e0 : w161.cell? ⟨B6, 0, none⟩ = some (.int .i64 kd) := (HS161.out).at 7 rfl 0 rfl
                  by_cases k6 : kd = 6
                  · subst k6
                    have b3 := (HS161.out).at 4 rfl 3 rfl
                    have f3 := (HS161.out).frozen 4 rfl 3
                    have HS6 := Lib.hid ((HS161.out).set 4 rfl 3 (.bool true))
                    clear HS161
                    go_wp2_with fail
                    have HT6 : Hid (Hp w [.ob (w.heap.size) 27 (dvCells (.slice pa d.pages.length pc) d (.slice ua d.unread.length uc) (.slice fa d.faults.length fc)), .ob B1 27 (dvCells nilS dvNil nilS nilS), .sl pv 9 1 ((⟨F.pages, F.writes, F.unread, true, F.faults⟩ : Dv).pages.length) (strRow (⟨F.pages, F.writes, F.unread, true, F.faults⟩ : Dv).pages), .sl ((.slice au F.unread.length cu)) 3 1 ((⟨F.pages, F.writes, F.unread, true, F.faults⟩ : Dv).unread.length) (intRow (⟨F.pages, F.writes, F.unread, true, F.faults⟩ : Dv).unread), .ob B2 27 (dvCells pv (⟨F.pages, F.writes, F.unread, true, F.faults⟩ : Dv) (.slice au F.unread.length cu) (.slice af lt.length cf)), .sl ((.slice (some ⟨gq, 0, none⟩) nw.length c0)) 29 6 (nw.length) (fltRow nw), .sl ((.slice af lt.length cf)) 29 6 (lt.length) (fltRow lt)] _) := HS6.out.pull [0, 1, 2, 3, 4, 5, 6] rfl (pull_nd HS6.out.nd [0, 1, 2, 3, 4, 5, 6] rfl (by decide))
                    have HH : happenR F ⟨6, at_, pg, tg, by_, ms⟩ = ⟨F.pages, F.writes, F.unread, true, F.faults⟩ := rfl
                    have hfin := HQn.out au cu
                    rw [HH] at hfin
                    go_roundw
                    case rel => exact ⟨au, cu, j + 1, by go_num, HLt.out, hfin _ (HT6.out)⟩
                    case measure => simp [intOf]; have := HLt.out; omega
                  by_cases k5 : kd = 5
                  · subst k5
                    obtain ⟨Ru, hrd, hin, _⟩ := own_reads ((HS161.out).own 3 rfl)
                    have HWt := Lib.hid (with_any F.unread pg _ Ru w161 hrd hin (by have := HFi.out.few; omega))
                    clear hrd hin
                    have b2 := (HS161.out).at 4 rfl 2 rfl
                    have e2 := (HS161.out).at 7 rfl 2 rfl
                    go_wp2_with fail
                    refine HWt.out.mono ?_
                    rintro e w9 ⟨u9, rfl, hb, ho⟩
                    obtain ⟨au9, cu9, rfl⟩ := own_slice ho
                    have HS9 := Lib.hid ((HS161.out).addown hb ho)
                    clear b2 e2 e0 hb ho HWt HS161
                    have b2 := HS9.out.at 4 rfl 2 rfl
                    have f2 := HS9.out.frozen 4 rfl 2
                    have HS10 := Lib.hid (HS9.out.set 4 rfl 2 (.slice au9 (withR pg F.unread).length cu9))
                    clear HS9
                    go_wp2_with fail
                    have HT6 : Hid (Hp w [.ob (w.heap.size) 27 (dvCells (.slice pa d.pages.length pc) d (.slice ua d.unread.length uc) (.slice fa d.faults.length fc)), .ob B1 27 (dvCells nilS dvNil nilS nilS), .sl pv 9 1 ((⟨F.pages, F.writes, withR pg F.unread, F.dead, F.faults⟩ : Dv).pages.length) (strRow (⟨F.pages, F.writes, withR pg F.unread, F.dead, F.faults⟩ : Dv).pages), .sl ((.slice au9 (withR pg F.unread).length cu9)) 3 1 ((⟨F.pages, F.writes, withR pg F.unread, F.dead, F.faults⟩ : Dv).unread.length) (intRow (⟨F.pages, F.writes, withR pg F.unread, F.dead, F.faults⟩ : Dv).unread), .ob B2 27 (dvCells pv (⟨F.pages, F.writes, withR pg F.unread, F.dead, F.faults⟩ : Dv) (.slice au9 (withR pg F.unread).length cu9) (.slice af lt.length cf)), .sl ((.slice (some ⟨gq, 0, none⟩) nw.length c0)) 29 6 (nw.length) (fltRow nw), .sl ((.slice af lt.length cf)) 29 6 (lt.length) (fltRow lt)] _) := HS10.out.pull [0, 1, 2, 8, 4, 5, 6] rfl (pull_nd HS10.out.nd [0, 1, 2, 8, 4, 5, 6] rfl (by decide))
                    have HH : happenR F ⟨5, at_, pg, tg, by_, ms⟩ = (⟨F.pages, F.writes, withR pg F.unread, F.dead, F.faults⟩ : Dv) := rfl
                    have hfin := HQn.out au9 cu9
                    rw [HH] at hfin
                    go_roundw
                    case rel => exact ⟨au9, cu9, j + 1, by go_num, HLt.out, hfin _ (HT6.out)⟩
                    case measure => simp [intOf]; have := HLt.out; omega
                  by_cases k4 : kd = 4
                  · subst k4
                    obtain ⟨kp, rfl⟩ := Int.eq_ofNat_of_zero_le (show 0 ≤ pg from HXr.out.2.2.1)
                    obtain ⟨kb, rfl⟩ := Int.eq_ofNat_of_zero_le (show 0 ≤ by_ from HXr.out.2.1.1)
                    have hkp : kp < F.pages.length := by rw [HFi.out.num]; have := HXr.out.2.2.2; simp only at this; omega
                    have hkb : kb < 256 := by have := HXr.out.2.1.2; simp only at this; omega
                    obtain ⟨m, hm⟩ : ∃ m : UInt8, ms = (m.toNat : Int) := ⟨UInt8.ofNat ms.toNat, by have := HXm.out; simp only at this; rw [UInt8.toNat_ofNat']; omega⟩
                    subst hm
                    have hpo := (HS161.out).own 2 rfl
                    rcases hpo.2 with ⟨_, h0⟩ | ⟨g, cap, cur, rfl, hB, hg, h1, h2, h3, h4⟩
                    · omega
                    obtain ⟨y, hy⟩ : ∃ y, F.pages[kp] = y := ⟨_, rfl⟩
                    have hys : y.size = 256 := by rw [← hy]; exact HFi.out.all _ (List.getElem_mem hkp)
                    have hjl : kb < y.data.toList.length := by rw [ba_size]; omega
                    have HHap : Hid (happenR F ⟨4, at_, kp, tg, kb, m.toNat⟩ = ⟨F.pages.set kp (rotR y kb m.toNat), F.writes, F.unread, F.dead, F.faults⟩) := by
                      show _ = _
                      unfold happenR
                      rw [if_pos rfl]
                      simp only [Int.toNat_natCast]
                      rw [modify_set _ _ _ hkp, hy]
                    have HKp := Lib.hid hkp
                    have HPat : Hid ((strRow F.pages)[kp]? = some (.string y)) := by show _ = _; rw [strRow_at F.pages kp hkp, hy]
                    obtain ⟨w2, cap2, hconv, hc2, hb2, hby⟩ := text_by w161 y
                    rw [hys] at hconv
                    obtain ⟨z, hz⟩ : ∃ z : UInt8, y.data.toList[kb] ^^^ m = z := ⟨_, rfl⟩
                    have hxor := xor_b (y.data.toList[kb]) m
                    rw [hz] at hxor
                    have HRot : Hid ((⟨(y.data.toList.set kb z).toArray⟩ : ByteArray) = rotR y kb m.toNat) := by show _ = _; rw [← hz]; exact rotR_list y kb m hjl
                    have hcj := hby.drew.cell kb hjl
                    have hfj := hby.drew.frozen kb hjl
                    have HBy3 : Hid (ByR (w2.setCell ⟨w161.heap.size, kb, none⟩ (.int .u8 (z.toNat : Int))).drew w161.heap.size (y.data.toList.set kb z)) := (hby.set kb hjl z).drew
                    have hcv2 := HBy3.out.conv cap2
                    rw [List.length_set, ba_size, hys, HRot.out] at hcv2
                    obtain ⟨zz, hzz⟩ : ∃ zz, rotR y kb m.toNat = zz := ⟨_, rfl⟩
                    rw [hzz] at hcv2
                    have HZ1 := Lib.hid hzz
                    have HS2 := Lib.hid ((HS161.out).calls hb2)
                    have HS3 := Lib.hid (((HS161.out).calls (hb2.setCell (p := ⟨w161.heap.size, kb, none⟩) (Nat.le_refl _) (.int .u8 (z.toNat : Int)))).drew)
                    clear hb2 hby hc2 hz hzz
                    have a0 := (HS161.out).at 4 rfl 0 rfl
                    have ap := (HS161.out).at 7 rfl 2 rfl
                    have ac := ((HS161.out).slcell 2 rfl kp HPat.out).1
                    have e4 := HS2.out.drew.at 7 rfl 4 rfl
                    have e5 := HS2.out.drew.at 7 rfl 5 rfl
                    have g0 := HS3.out.at 4 rfl 0 rfl
                    have g2 := HS3.out.at 7 rfl 2 rfl
                    have gc := (HS3.out.slcell 2 rfl kp HPat.out).1
                    have gf := (HS3.out.slcell 2 rfl kp HPat.out).2
                    generalize hyj : (y.data.toList[kb].toNat : Int) = yj at *
                    generalize hmi : (m.toNat : Int) = mi at *
                    generalize (z.toNat : Int) = zi at *
                    have hk0 : (0 : Int) ≤ (kp : Int) := by omega
                    have hkn : (kp : Int) < (F.pages.length : Int) := by omega
                    have hb0 : (0 : Int) ≤ (kb : Int) := by omega
                    have hbn : (kb : Int) < 256 := by omega
                    clear hpo hB hg h1 h2 h3 h4 hkp hy hyj hjl hkb hys
                    go_upto_region 40 with (fail)
                    clear a0 ap ac
                    go_region
                    clear hcj hfj e4 e5
                    go_wp2_with fail
                    have h4 := (HS3.out.slset 2 rfl kp HKp.out (.string zz))
                    rw [strRow_set] at h4
                    have HT6 : Hid (Hp w [.ob (w.heap.size) 27 (dvCells (.slice pa d.pages.length pc) d (.slice ua d.unread.length uc) (.slice fa d.faults.length fc)), .ob B1 27 (dvCells nilS dvNil nilS nilS), .sl ((.slice (some ⟨g, 0, none⟩) F.pages.length cap)) 9 1 ((⟨F.pages.set kp zz, F.writes, F.unread, F.dead, F.faults⟩ : Dv).pages.length) (strRow (⟨F.pages.set kp zz, F.writes, F.unread, F.dead, F.faults⟩ : Dv).pages), .sl ((.slice au F.unread.length cu)) 3 1 ((⟨F.pages.set kp zz, F.writes, F.unread, F.dead, F.faults⟩ : Dv).unread.length) (intRow (⟨F.pages.set kp zz, F.writes, F.unread, F.dead, F.faults⟩ : Dv).unread), .ob B2 27 (dvCells (.slice (some ⟨g, 0, none⟩) F.pages.length cap) (⟨F.pages.set kp zz, F.writes, F.unread, F.dead, F.faults⟩ : Dv) (.slice au F.unread.length cu) (.slice af lt.length cf)), .sl ((.slice (some ⟨gq, 0, none⟩) nw.length c0)) 29 6 (nw.length) (fltRow nw), .sl ((.slice af lt.length cf)) 29 6 (lt.length) (fltRow lt)] _) := Lib.hid (by
                      have h5 : Hp w [.ob (w.heap.size) 27 (dvCells (.slice pa d.pages.length pc) d (.slice ua d.unread.length uc) (.slice fa d.faults.length fc)), .ob B1 27 (dvCells nilS dvNil nilS nilS), .sl ((.slice (some ⟨g, 0, none⟩) F.pages.length cap)) 9 1 (F.pages.length) (strRow (⟨F.pages.set kp zz, F.writes, F.unread, F.dead, F.faults⟩ : Dv).pages), .sl ((.slice au F.unread.length cu)) 3 1 ((⟨F.pages.set kp zz, F.writes, F.unread, F.dead, F.faults⟩ : Dv).unread.length) (intRow (⟨F.pages.set kp zz, F.writes, F.unread, F.dead, F.faults⟩ : Dv).unread), .ob B2 27 (dvCells (.slice (some ⟨g, 0, none⟩) F.pages.length cap) (⟨F.pages.set kp zz, F.writes, F.unread, F.dead, F.faults⟩ : Dv) (.slice au F.unread.length cu) (.slice af lt.length cf)), .sl ((.slice (some ⟨gq, 0, none⟩) nw.length c0)) 29 6 (nw.length) (fltRow nw), .sl ((.slice af lt.length cf)) 29 6 (lt.length) (fltRow lt)] _ := h4.pull [0, 1, 2, 3, 4, 5, 6] rfl (pull_nd h4.nd [0, 1, 2, 3, 4, 5, 6] rfl (by decide))
                      show Hp w [.ob (w.heap.size) 27 (dvCells (.slice pa d.pages.length pc) d (.slice ua d.unread.length uc) (.slice fa d.faults.length fc)), .ob B1 27 (dvCells nilS dvNil nilS nilS), .sl ((.slice (some ⟨g, 0, none⟩) F.pages.length cap)) 9 1 ((⟨F.pages.set kp zz, F.writes, F.unread, F.dead, F.faults⟩ : Dv).pages.length) (strRow (⟨F.pages.set kp zz, F.writes, F.unread, F.dead, F.faults⟩ : Dv).pages), .sl ((.slice au F.unread.length cu)) 3 1 ((⟨F.pages.set kp zz, F.writes, F.unread, F.dead, F.faults⟩ : Dv).unread.length) (intRow (⟨F.pages.set kp zz, F.writes, F.unread, F.dead, F.faults⟩ : Dv).unread), .ob B2 27 (dvCells (.slice (some ⟨g, 0, none⟩) F.pages.length cap) (⟨F.pages.set kp zz, F.writes, F.unread, F.dead, F.faults⟩ : Dv) (.slice au F.unread.length cu) (.slice af lt.length cf)), .sl ((.slice (some ⟨gq, 0, none⟩) nw.length c0)) 29 6 (nw.length) (fltRow nw), .sl ((.slice af lt.length cf)) 29 6 (lt.length) (fltRow lt)] _
                      generalize Value.slice (some ⟨g, 0, none⟩) F.pages.length cap = pv2 at h5 ⊢
                      rw [show F.pages.length = (F.pages.set kp zz).length from (List.length_set ..).symm] at h5
                      exact h5)
                    have HHz : happenR F ⟨4, at_, kp, tg, kb, mi⟩ = ⟨F.pages.set kp zz, F.writes, F.unread, F.dead, F.faults⟩ := by rw [HHap.out, HZ1.out]
                    have hfin := HQn.out au cu
                    rw [HHz] at hfin
                    go_roundw
                    case rel => exact ⟨au, cu, j + 1, by go_num, HLt.out, hfin _ HT6.out⟩
                    case measure => simp [intOf]; have := HLt.out; omega
                  have q4 : (kd == 4) = false := by rw [beq_eq_false_iff_ne]; exact k4
                  have q5 : (kd == 5) = false := by rw [beq_eq_false_iff_ne]; exact k5
                  have q6 : (kd == 6) = false := by rw [beq_eq_false_iff_ne]; exact k6
                  have HH : happenR F ⟨kd, at_, pg, tg, by_, ms⟩ = F := by unfold happenR; rw [if_neg k4, if_neg k5, if_neg k6]
                  have hfin := HQn.out au cu
                  rw [HH] at hfin
                  clear k4 k5 k6 HH
                  go_wp2_with fail
                  have HT6 : Hid (Hp w [.ob (w.heap.size) 27 (dvCells (.slice pa d.pages.length pc) d (.slice ua d.unread.length uc) (.slice fa d.faults.length fc)), .ob B1 27 (dvCells nilS dvNil nilS nilS), .sl pv 9 1 (F.pages.length) (strRow F.pages), .sl ((.slice au F.unread.length cu)) 3 1 (F.unread.length) (intRow F.unread), .ob B2 27 (dvCells pv F (.slice au F.unread.length cu) (.slice af lt.length cf)), .sl ((.slice (some ⟨gq, 0, none⟩) nw.length c0)) 29 6 (nw.length) (fltRow nw), .sl ((.slice af lt.length cf)) 29 6 (lt.length) (fltRow lt)] _) := (HS161.out).pull [0, 1, 2, 3, 4, 5, 6] rfl (pull_nd (HS161.out).nd [0, 1, 2, 3, 4, 5, 6] rfl (by decide))
                  go_roundw
                  case rel => exact ⟨au, cu, j + 1, by go_num, HLt.out, hfin _ HT6.out⟩
                  case measure => simp [intOf]; have := HLt.out; omega
end Go.Proofs.Ythcjkbhkidijoaa
/- the program's Tear -/
namespace Go.Proofs.Ythcjkbhkidijoaa
open Go.RowKit
set_option maxRecDepth 20000
set_option linter.unusedSimpArgs false
set_option linter.unusedVariables false

set_option maxHeartbeats 16000000 in
theorem tear_any {p u f : Value} {d : Dv} {R : List Rng} (page : Int) (s : ByteArray) (cut : Int) (w : World) (h : DvRd p u f d R) (hR : RdIn w R) (hg : GoodDv d) (hss : s.size ≤ maxLen) (hp : d.pages.length ≤ 1000) (hf : d.faults.length ≤ 1000) :
    Calls Try.prog 27 #[.agg (dvCells p d u f).toArray, .int .i64 page, .string s, .int .i64 cut] w (DvPost w R (tearR d page s cut)) := by
  have HV : Hid (∀ W, Below w.heap.size w W → Calls Try.prog 38 #[.agg (dvCells p d u f).toArray, .int .i64 page] W fun e w' => e = .returned (.int .i64 (usableR d page)) ∧ Below W.heap.size W w') := fun W hb => reach_any page W h (hR.below hb) hg
  have HCp : Hid (∀ W, Below w.heap.size w W → Calls Try.prog 39 #[.agg (dvCells p d u f).toArray] W fun e w' => ∃ v, e = .returned v ∧ OwnDv W w' v d) := fun W hb => copied_any W h (hR.below hb) hp hg.unread hf
  obtain ⟨fs, hud⟩ := under_dv
  have HUD := Lib.hid hud
  obtain ⟨fs2, huf⟩ := under_flt
  have HUF := Lib.hid huf
  clear hud huf
  obtain ⟨pa, pc, rfl, hp1, hp3, hP2⟩ := h.pages.open hR
  obtain ⟨ua, uc, rfl, hu1, hu3, hU2⟩ := h.unread.open hR
  obtain ⟨fa, fc, rfl, hf1, hf3, hF2⟩ := h.faults.open hR
  clear h hR hg hP2 hU2 hF2 hf hp
  have h1 := ((Hp.start w).put 27 (dvCells (.slice pa d.pages.length pc) d (.slice ua d.unread.length uc) (.slice fa d.faults.length fc))).put 27 (dvCells nilS dvNil nilS nilS)
  simp only [World.size_alloc, List.nil_append, List.cons_append] at h1
  have HS0 : Hid (Hp w [.ob w.heap.size 27 (dvCells (.slice pa d.pages.length pc) d (.slice ua d.unread.length uc) (.slice fa d.faults.length fc)), .ob (w.heap.size + 1) 27 (dvCells nilS dvNil nilS nilS)] ((w.alloc (.cells (dvCells (.slice pa d.pages.length pc) d (.slice ua d.unread.length uc) (.slice fa d.faults.length fc)).toArray 27)).alloc (.cells #[.slice none 0 0, .int .i64 0, .slice none 0 0, .bool false, .slice none 0 0] 27))) := h1
  clear h1 hp1 hp3 hu1 hu3 hf1 hf3
  have hsm : (s.size : Int) ≤ 9223372036854775807 := by unfold maxLen at hss; omega
  clear hss
  go_enter Try.func27, Try.ntmps27
  go_wp2_with (first | ((with_reducible refine wpList_load_ob 27 (.tmp 4) (w.heap.size) (dvCells (.slice pa d.pages.length pc) d (.slice ua d.unread.length uc) (.slice fa d.faults.length fc)) 27 HUD.out ?_ ?_ ?_ ?_ ?_); (exact rfl); (exact (HS0.out).get 0 rfl); (exact rfl); (exact info_dv); simp only [Act.put, List.setIfInBounds_toArray, List.set_cons_zero, List.set_cons_succ]))
  refine (HV.out _ (HS0.out).old).mono ?_
  rintro e w3 ⟨rfl, hb⟩
  have HS2 : Hid (Hp w [.ob (w.heap.size) 27 (dvCells (.slice pa d.pages.length pc) d (.slice ua d.unread.length uc) (.slice fa d.faults.length fc)), .ob ((w.heap.size + 1)) 27 (dvCells nilS dvNil nilS nilS)] w3) := (HS0.out).calls hb
  clear hb
  clear HS0
  generalize (w.heap.size + 1) = B1 at *
  clear HV
  by_cases hv : usableR d page = 0
  case neg =>
    have HX := Lib.hid hv
    have hq : (usableR d page != 0) = true := by rw [bne_iff_ne]; exact hv
    clear hv
    go_wp2_with (first | ((with_reducible refine wpList_build_v 27 (.agg (dvCells nilS dvNil nilS nilS).toArray) ?_ ?_); (intro W; simp only [List.map_toArray, List.map_cons, List.map_nil]; exact build_dv0 W); simp only [Act.put, List.setIfInBounds_toArray, List.set_cons_zero, List.set_cons_succ]) | ((with_reducible refine wpList_store_ob 27 (.tmp 8) B1 (dvCells nilS dvNil nilS nilS) (dvCells nilS dvNil nilS nilS) 27 ?_ ?_ ?_ ?_ ?_ ?_ ?_); (exact rfl); (exact rfl); (exact (HS2.out).get 1 rfl); (exact info_dv); (exact rfl); (exact (oneCell_dv _ _ _ _ _ _ _ _ _ _)); skip))
    have HS3 : Hid (Hp w [.ob (w.heap.size) 27 (dvCells (.slice pa d.pages.length pc) d (.slice ua d.unread.length uc) (.slice fa d.faults.length fc)), .ob B1 27 (dvCells nilS dvNil nilS nilS)] (w3.setRow B1 (dvCells nilS dvNil nilS nilS).toArray)) := (HS2.out).row 1 rfl (dvCells nilS dvNil nilS nilS)
    clear HS2
    generalize (w3.setRow B1 (dvCells nilS dvNil nilS nilS).toArray) = w4 at *
    refine bodyPost_ret (results_ob_tmp Try.results27 _ _ B1 (dvCells nilS dvNil nilS nilS) 27 _ rfl (HS3.out.get 1 rfl) HUD.out rfl info_dv) rfl ?_
    exact DvPost.none (by unfold tearR; rw [if_pos HX.out]) HS3.out.old
  case pos =>
    have HX : Hid (¬ usableR d page ≠ 0) := fun h => h hv
    have hq : (usableR d page != 0) = false := by rw [hv]; rfl
    obtain ⟨hok, hdd, g0, g1⟩ := usable_ok hv
    have HOk := Lib.hid (ok_inv hok)
    obtain ⟨k, rfl⟩ := Int.eq_ofNat_of_zero_le g0
    have HKn : Hid (k < d.pages.length) := by show _ < _; omega
    clear hv hok hdd g0 g1
    by_cases hc1 : cut < 0
    case pos =>
      have HY := Lib.hid hc1
      go_wp2_with (first | ((with_reducible refine wpList_build_v 27 (.agg (dvCells nilS dvNil nilS nilS).toArray) ?_ ?_); (intro W; simp only [List.map_toArray, List.map_cons, List.map_nil]; exact build_dv0 W); simp only [Act.put, List.setIfInBounds_toArray, List.set_cons_zero, List.set_cons_succ]) | ((with_reducible refine wpList_store_ob 27 (.tmp 8) B1 (dvCells nilS dvNil nilS nilS) (dvCells nilS dvNil nilS nilS) 27 ?_ ?_ ?_ ?_ ?_ ?_ ?_); (exact rfl); (exact rfl); (exact (HS2.out).get 1 rfl); (exact info_dv); (exact rfl); (exact (oneCell_dv _ _ _ _ _ _ _ _ _ _)); skip))
      have HS3 : Hid (Hp w [.ob (w.heap.size) 27 (dvCells (.slice pa d.pages.length pc) d (.slice ua d.unread.length uc) (.slice fa d.faults.length fc)), .ob B1 27 (dvCells nilS dvNil nilS nilS)] (w3.setRow B1 (dvCells nilS dvNil nilS nilS).toArray)) := (HS2.out).row 1 rfl (dvCells nilS dvNil nilS nilS)
      clear HS2
      generalize (w3.setRow B1 (dvCells nilS dvNil nilS nilS).toArray) = w4 at *
      refine bodyPost_ret (results_ob_tmp Try.results27 _ _ B1 (dvCells nilS dvNil nilS nilS) 27 _ rfl (HS3.out.get 1 rfl) HUD.out rfl info_dv) rfl ?_
      exact DvPost.none (by unfold tearR; rw [if_neg HX.out, if_pos (.inl HY.out)]) HS3.out.old
    case neg =>
      by_cases hc2 : 256 < cut
      case pos =>
        have HY := Lib.hid hc2
        go_wp2_with (first | ((with_reducible refine wpList_build_v 27 (.agg (dvCells nilS dvNil nilS nilS).toArray) ?_ ?_); (intro W; simp only [List.map_toArray, List.map_cons, List.map_nil]; exact build_dv0 W); simp only [Act.put, List.setIfInBounds_toArray, List.set_cons_zero, List.set_cons_succ]) | ((with_reducible refine wpList_store_ob 27 (.tmp 8) B1 (dvCells nilS dvNil nilS nilS) (dvCells nilS dvNil nilS nilS) 27 ?_ ?_ ?_ ?_ ?_ ?_ ?_); (exact rfl); (exact rfl); (exact (HS2.out).get 1 rfl); (exact info_dv); (exact rfl); (exact (oneCell_dv _ _ _ _ _ _ _ _ _ _)); skip))
        have HS3 : Hid (Hp w [.ob (w.heap.size) 27 (dvCells (.slice pa d.pages.length pc) d (.slice ua d.unread.length uc) (.slice fa d.faults.length fc)), .ob B1 27 (dvCells nilS dvNil nilS nilS)] (w3.setRow B1 (dvCells nilS dvNil nilS nilS).toArray)) := (HS2.out).row 1 rfl (dvCells nilS dvNil nilS nilS)
        clear HS2
        generalize (w3.setRow B1 (dvCells nilS dvNil nilS nilS).toArray) = w4 at *
        refine bodyPost_ret (results_ob_tmp Try.results27 _ _ B1 (dvCells nilS dvNil nilS nilS) 27 _ rfl (HS3.out.get 1 rfl) HUD.out rfl info_dv) rfl ?_
        exact DvPost.none (by unfold tearR; rw [if_neg HX.out, if_pos (.inr HY.out)]) HS3.out.old
      case neg =>
        obtain ⟨t, rfl⟩ := Int.eq_ofNat_of_zero_le (show 0 ≤ cut by omega)
        have HT : Hid (t ≤ 256) := by show _ ≤ _; omega
        have HY : Hid (¬ ((t : Int) < 0 ∨ 256 < (t : Int))) := fun h => h.elim hc1 hc2
        have ht0 : (0 : Int) ≤ (t : Int) := by omega
        have ht1 : (t : Int) ≤ 256 := by omega
        clear hc1 hc2
        by_cases hz : s.size = 256
        case neg =>
          have HZ := Lib.hid hz
          have hqs : ((s.size : Int) != 256) = true := by rw [bne_iff_ne]; omega
          clear hz
          go_wp2_with (first | ((with_reducible refine wpList_build_v 27 (.agg (dvCells nilS dvNil nilS nilS).toArray) ?_ ?_); (intro W; simp only [List.map_toArray, List.map_cons, List.map_nil]; exact build_dv0 W); simp only [Act.put, List.setIfInBounds_toArray, List.set_cons_zero, List.set_cons_succ]) | ((with_reducible refine wpList_store_ob 27 (.tmp 8) B1 (dvCells nilS dvNil nilS nilS) (dvCells nilS dvNil nilS nilS) 27 ?_ ?_ ?_ ?_ ?_ ?_ ?_); (exact rfl); (exact rfl); (exact (HS2.out).get 1 rfl); (exact info_dv); (exact rfl); (exact (oneCell_dv _ _ _ _ _ _ _ _ _ _)); skip))
          have HS3 : Hid (Hp w [.ob (w.heap.size) 27 (dvCells (.slice pa d.pages.length pc) d (.slice ua d.unread.length uc) (.slice fa d.faults.length fc)), .ob B1 27 (dvCells nilS dvNil nilS nilS)] (w3.setRow B1 (dvCells nilS dvNil nilS nilS).toArray)) := (HS2.out).row 1 rfl (dvCells nilS dvNil nilS nilS)
          clear HS2
          generalize (w3.setRow B1 (dvCells nilS dvNil nilS nilS).toArray) = w4 at *
          refine bodyPost_ret (results_ob_tmp Try.results27 _ _ B1 (dvCells nilS dvNil nilS nilS) 27 _ rfl (HS3.out.get 1 rfl) HUD.out rfl info_dv) rfl ?_
          exact DvPost.none (by unfold tearR; rw [if_neg HX.out, if_neg HY.out, if_pos HZ.out]) HS3.out.old
        case pos =>
          have HZ : Hid (¬ s.size ≠ 256) := fun h => h hz
          have HSz := Lib.hid hz
          have hts : (t : Int) ≤ (s.size : Int) := by omega
          have hqs : ((s.size : Int) != 256) = false := by rw [hz]; rfl
          clear hz
          go_wp2_with (first | ((with_reducible refine wpList_load_ob 27 (.tmp 4) (w.heap.size) (dvCells (.slice pa d.pages.length pc) d (.slice ua d.unread.length uc) (.slice fa d.faults.length fc)) 27 HUD.out ?_ ?_ ?_ ?_ ?_); (exact rfl); (exact (HS2.out).get 0 rfl); (exact rfl); (exact info_dv); simp only [Act.put, List.setIfInBounds_toArray, List.set_cons_zero, List.set_cons_succ]))
          refine (HCp.out _ (HS2.out).old).mono ?_
          rintro e w20 ⟨v, rfl, p', u', f', rfl, hk⟩
          obtain ⟨a1, c1, rfl⟩ := own_slice (hk.own 0 rfl)
          obtain ⟨a2, c2, rfl⟩ := own_slice (hk.own 1 rfl)
          obtain ⟨a3, c3, rfl⟩ := own_slice (hk.own 2 rfl)
          have HS3 : Hid (Hp w [.ob (w.heap.size) 27 (dvCells (.slice pa d.pages.length pc) d (.slice ua d.unread.length uc) (.slice fa d.faults.length fc)), .ob B1 27 (dvCells nilS dvNil nilS nilS), .sl ((.slice a1 d.pages.length c1)) 9 1 (d.pages.length) (strRow d.pages), .sl ((.slice a2 d.unread.length c2)) 3 1 (d.unread.length) (intRow d.unread), .sl ((.slice a3 d.faults.length c3)) 29 6 (d.faults.length) (fltRow d.faults)] w20) := (HS2.out).join hk (three_sl (sl_plain _ _ _ _ _) (sl_plain _ _ _ _ _) (sl_plain _ _ _ _ _))
          clear HS2
          clear HCp hk
          go_wp2_with (first | ((with_reducible refine wpList_store_ob 27 (.tmp 4) (w.heap.size) (dvCells (.slice a1 d.pages.length c1) d (.slice a2 d.unread.length c2) (.slice a3 d.faults.length c3)) (dvCells (.slice pa d.pages.length pc) d (.slice ua d.unread.length uc) (.slice fa d.faults.length fc)) 27 ?_ ?_ ?_ ?_ ?_ ?_ ?_); (exact rfl); (exact rfl); (exact (HS3.out).get 0 rfl); (exact info_dv); (exact rfl); (exact (oneCell_dv _ _ _ _ _ _ _ _ _ _)); skip))
          have HS5 : Hid (Hp w [.ob w.heap.size 27 (dvCells (.slice a1 d.pages.length c1) d (.slice a2 d.unread.length c2) (.slice a3 d.faults.length c3)), .ob B1 27 (dvCells nilS dvNil nilS nilS), .sl (.slice a1 d.pages.length c1) 9 1 d.pages.length (strRow d.pages), .sl (.slice a2 d.unread.length c2) 3 1 d.unread.length (intRow d.unread), .sl (.slice a3 d.faults.length c3) 29 6 d.faults.length (fltRow d.faults)] (w20.setRow (w.heap.size) (dvCells (.slice a1 d.pages.length c1) d (.slice a2 d.unread.length c2) (.slice a3 d.faults.length c3)).toArray)) := (HS3.out).row 0 rfl (dvCells (.slice a1 d.pages.length c1) d (.slice a2 d.unread.length c2) (.slice a3 d.faults.length c3))
          clear HS3
          generalize w20.setRow (w.heap.size) (dvCells (.slice a1 d.pages.length c1) d (.slice a2 d.unread.length c2) (.slice a3 d.faults.length c3)).toArray = w5 at *
          have HS6 : Hid (Hp w (DvTh w.heap.size (.slice a1 d.pages.length c1) (.slice a2 d.unread.length c2) (.slice a3 d.faults.length c3) d [.ob B1 27 (dvCells nilS dvNil nilS nilS), .sl (.slice a3 d.faults.length c3) 29 6 d.faults.length (fltRow d.faults)]) w5) := HS5.out.pull [0, 2, 3, 1, 4] rfl (pull_nd HS5.out.nd [0, 2, 3, 1, 4] rfl (by decide))
          clear HS5
          have hput := put_any (s.extract 0 t) k HS6.out HKn.out HOk.out.1.all (by rw [ByteArray.size_extract]; have := HT.out; omega) (by have := HOk.out.1.few; omega) (by have := HOk.out.2.1; omega)
          rw [dput_place s k t HSz.out HT.out] at hput
          refine hput.mono ?_
          rintro e w12 ⟨rfl, u12, h12⟩
          have HFz : Hid ((placeR d k s t).faults = d.faults) := rfl
          have HRes : Hid (tearR d k s t = (placeR d k s t, 0)) := by
            show _ = _
            unfold tearR
            rw [if_neg HX.out, if_neg HY.out, if_neg HZ.out, Int.toNat_natCast]
          generalize placeR d k s t = dz at *
          have HY2 := Lib.hid h12
          clear hput h12 HS6
          obtain ⟨az, cz, rfl⟩ := own_slice (HY2.out.own 2 rfl)
          go_wp2_with (first | ((with_reducible refine wpList_load_ob 27 (.tmp 4) w.heap.size (dvCells (.slice a1 d.pages.length c1) dz (.slice az dz.unread.length cz) (.slice a3 d.faults.length c3)) 27 HUD.out ?_ ?_ ?_ ?_ ?_); (exact rfl); (exact HY2.out.get 0 rfl); (exact rfl); (exact info_dv); simp only [Act.put, List.setIfInBounds_toArray, List.set_cons_zero, List.set_cons_succ]) | ((with_reducible refine wpList_store_ob 27 (.tmp 8) B1 (dvCells (.slice a1 d.pages.length c1) dz (.slice az dz.unread.length cz) (.slice a3 d.faults.length c3)) (dvCells nilS dvNil nilS nilS) 27 ?_ ?_ ?_ ?_ ?_ ?_ ?_); (exact rfl); (exact rfl); (exact HY2.out.get 3 rfl); (exact info_dv); (exact rfl); (exact (oneCell_dv _ _ _ _ _ _ _ _ _ _)); skip))
          have HF : Hid (Hp w [.ob w.heap.size 27 (dvCells (.slice a1 d.pages.length c1) dz (.slice az dz.unread.length cz) (.slice a3 d.faults.length c3)), .sl (.slice a1 d.pages.length c1) 9 1 dz.pages.length (strRow dz.pages), .sl (.slice az dz.unread.length cz) 3 1 dz.unread.length (intRow dz.unread), .ob B1 27 (dvCells (.slice a1 d.pages.length c1) dz (.slice az dz.unread.length cz) (.slice a3 d.faults.length c3)), .sl (.slice a3 d.faults.length c3) 29 6 d.faults.length (fltRow d.faults)] (w12.setRow B1 (dvCells (.slice a1 d.pages.length c1) dz (.slice az dz.unread.length cz) (.slice a3 d.faults.length c3)).toArray)) := HY2.out.row 3 rfl (dvCells (.slice a1 d.pages.length c1) dz (.slice az dz.unread.length cz) (.slice a3 d.faults.length c3))
          clear HY2
          generalize w12.setRow B1 (dvCells (.slice a1 d.pages.length c1) dz (.slice az dz.unread.length cz) (.slice a3 d.faults.length c3)).toArray = w15 at *
          refine bodyPost_ret (results_ob_tmp Try.results27 _ _ B1 (dvCells (.slice a1 d.pages.length c1) dz (.slice az dz.unread.length cz) (.slice a3 d.faults.length c3)) 27 _ rfl (HF.out.get 3 rfl) HUD.out rfl info_dv) rfl ?_
          obtain ⟨R', hrd, hin, hnew⟩ := own_dv (d := dz) (HF.out.own 1 rfl) (HF.out.own 2 rfl) (by rw [HFz.out]; exact HF.out.own 4 rfl)
          rw [HRes.out]
          exact ⟨_, _, _, R', rfl, hrd, hin, fun r hr => .inl (hnew r hr), HF.out.old⟩
end Go.Proofs.Ythcjkbhkidijoaa
/- the program's blanks -/
namespace Go.Proofs.Ythcjkbhkidijoaa
open Go.RowKit
set_option maxRecDepth 20000
set_option linter.unusedSimpArgs false
set_option linter.unusedVariables false

set_option maxHeartbeats 4000000 in
theorem pblanks_k (n : Nat) (w : World) (h1 : 1 ≤ n) (hn : n ≤ 64) :
    Calls Try.prog 34 #[.int .i64 (n : Int)] w fun e w' => ∃ v, e = .returned v ∧ Below w.heap.size w w' ∧ w'.ownsRow w.heap.size 9 1 v n (strRow (List.replicate n blankPg)) := by
  have HUT : Hid (Try.prog.underlying 23 = some (.slice 9)) := Try.underlying23
  obtain ⟨L0, hmk0, hcv0⟩ := made256
  have hmk := hmk0 w
  have hcv := hcv0 w
  clear hmk0 hcv0
  obtain ⟨B, hB⟩ : ∃ B, blankPg = B := ⟨_, rfl⟩
  rw [hB] at hcv
  rw [hB]
  have HN : Hid (1 ≤ n ∧ n ≤ 64) := ⟨h1, hn⟩
  have h2 := ((Hp.start w).put 5 L0).put 9 [.string B]
  simp only [World.size_alloc, List.nil_append, List.cons_append] at h2
  have HS0 : Hid (Hp w [.ob w.heap.size 5 L0, .ob (w.heap.size + 1) 9 [.string B]] ((w.alloc (.cells L0.toArray 5)).alloc (.cells #[.string B] 9))) := h2
  have hcall := repeat_any (w.heap.size + 1) B n h1 hn _ (HS0.out.at 1 rfl 0 rfl) (HS0.out.lt 1 rfl rfl).2
  have hsz : ((w.alloc (.cells L0.toArray 5)).alloc (.cells #[.string B] 9)).heap.size = w.heap.size + 1 + 1 := by simp
  rw [hsz] at hcall
  have HCall := Lib.hid hcall
  clear h1 hn h2 hB hcall hsz
  go_enter Try.func34, Try.ntmps34
  go_wp2_with (first | ((with_reducible refine wpList_build_vals 23 1 elem_s HUT.out [.string B] ?_ ?_ ?_ ?_ ?_ ?_); (exact (by intro v hv; simp only [List.mem_cons, List.not_mem_nil, or_false] at hv; subst hv; rfl)); (exact Nat.succ_pos _); (simp only [List.length_cons, List.length_nil]; omega); (exact rfl); (simp only [List.map_toArray, List.map_cons, List.map_nil, List.zipIdx_cons, List.zipIdx_nil]; exact rfl); simp only [Act.put, List.setIfInBounds_toArray, List.set_cons_zero, List.set_cons_succ]))
  refine HCall.out.mono ?_
  rintro e w4 ⟨rfl, hg, hb⟩
  have HG := Lib.hid hg
  have HB4 : Hid (Below w.heap.size w w4) := HS0.out.old.trans (hb.mono (by omega))
  have HSz : Hid (w.heap.size ≤ w.heap.size + 1 + 1) := by show _ ≤ _; omega
  clear hg hb
  go_wp2_with fail
  go_ret
  refine ⟨_, rfl, HB4.out, ⟨by simp [strRow], .inr ⟨_, n, _, rfl, HSz.out, HG.out, Nat.le_refl _, by have := HN.out; unfold maxLen; omega, by simp, ?_⟩⟩⟩
  simp [strRow]
end Go.Proofs.Ythcjkbhkidijoaa
/- the program's New -/
namespace Go.Proofs.Ythcjkbhkidijoaa
open Go.RowKit
set_option maxRecDepth 20000
set_option linter.unusedSimpArgs false
set_option linter.unusedVariables false

set_option linter.unusedSimpArgs false in
set_option maxHeartbeats 4000000 in
theorem new_dv (n : Int) (w : World) : Calls Try.prog 13 #[.int .i64 n] w (DvPost w [] (newR n)) := by
  obtain ⟨fs, hud⟩ := under_dv
  have HUD := Lib.hid hud
  clear hud
  have HS0 : Hid (Hp w [] w) := Hp.start w
  have hb0 := build_dv0
  by_cases h1 : n < 1
  · have HX := Lib.hid h1
    go_enter Try.func13, Try.ntmps13
    go_wp2_with (first | ((with_reducible refine wpList_alloc_ob 27 (dvCells nilS dvNil nilS nilS) ?_ ?_); (exact alloc_dv); simp only [Act.put, List.setIfInBounds_toArray, List.set_cons_zero, List.set_cons_succ]) | ((with_reducible refine wpList_build_v 27 (.agg (dvCells nilS dvNil nilS nilS).toArray) ?_ ?_); (intro W; simp only [List.map_toArray, List.map_cons, List.map_nil]; exact build_dv0 W); simp only [Act.put, List.setIfInBounds_toArray, List.set_cons_zero, List.set_cons_succ]) | ((with_reducible refine wpList_store_ob 27 (.tmp 2) (w.heap.size) (dvCells nilS dvNil nilS nilS) (dvCells nilS dvNil nilS nilS) 27 ?_ ?_ ?_ ?_ ?_ ?_ ?_); (exact rfl); (exact rfl); (exact ((HS0.out).put 27 (dvCells nilS dvNil nilS nilS)).get 0 rfl); (exact info_dv); (exact rfl); (exact (oneCell_dv _ _ _ _ _ _ _ _ _ _)); skip))
    have HS1 : Hid (Hp w [.ob (w.heap.size) 27 (dvCells nilS dvNil nilS nilS)] ((w.alloc (.cells (dvCells nilS dvNil nilS nilS).toArray 27)).setRow (w.heap.size) (dvCells nilS dvNil nilS nilS).toArray)) := ((HS0.out).put 27 (dvCells nilS dvNil nilS nilS)).row 0 rfl (dvCells nilS dvNil nilS nilS)
    clear HS0
    generalize ((w.alloc (.cells (dvCells nilS dvNil nilS nilS).toArray 27)).setRow (w.heap.size) (dvCells nilS dvNil nilS nilS).toArray) = w3 at *
    refine bodyPost_ret (results_ob_tmp Try.results13 _ _ (w.heap.size) (dvCells nilS dvNil nilS nilS) 27 _ rfl (HS1.out.get 0 rfl) HUD.out rfl info_dv) rfl ?_
    exact DvPost.none (by unfold newR; rw [if_pos (by exact .inl HX.out)]) HS1.out.old
  by_cases h2 : 64 < n
  · have HX := Lib.hid h2
    go_enter Try.func13, Try.ntmps13
    go_wp2_with (first | ((with_reducible refine wpList_alloc_ob 27 (dvCells nilS dvNil nilS nilS) ?_ ?_); (exact alloc_dv); simp only [Act.put, List.setIfInBounds_toArray, List.set_cons_zero, List.set_cons_succ]) | ((with_reducible refine wpList_build_v 27 (.agg (dvCells nilS dvNil nilS nilS).toArray) ?_ ?_); (intro W; simp only [List.map_toArray, List.map_cons, List.map_nil]; exact build_dv0 W); simp only [Act.put, List.setIfInBounds_toArray, List.set_cons_zero, List.set_cons_succ]) | ((with_reducible refine wpList_store_ob 27 (.tmp 2) (w.heap.size) (dvCells nilS dvNil nilS nilS) (dvCells nilS dvNil nilS nilS) 27 ?_ ?_ ?_ ?_ ?_ ?_ ?_); (exact rfl); (exact rfl); (exact ((HS0.out).put 27 (dvCells nilS dvNil nilS nilS)).get 0 rfl); (exact info_dv); (exact rfl); (exact (oneCell_dv _ _ _ _ _ _ _ _ _ _)); skip))
    have HS1 : Hid (Hp w [.ob (w.heap.size) 27 (dvCells nilS dvNil nilS nilS)] ((w.alloc (.cells (dvCells nilS dvNil nilS nilS).toArray 27)).setRow (w.heap.size) (dvCells nilS dvNil nilS nilS).toArray)) := ((HS0.out).put 27 (dvCells nilS dvNil nilS nilS)).row 0 rfl (dvCells nilS dvNil nilS nilS)
    clear HS0
    generalize ((w.alloc (.cells (dvCells nilS dvNil nilS nilS).toArray 27)).setRow (w.heap.size) (dvCells nilS dvNil nilS nilS).toArray) = w3 at *
    refine bodyPost_ret (results_ob_tmp Try.results13 _ _ (w.heap.size) (dvCells nilS dvNil nilS nilS) 27 _ rfl (HS1.out.get 0 rfl) HUD.out rfl info_dv) rfl ?_
    exact DvPost.none (by unfold newR; rw [if_pos (by exact .inr HX.out)]) HS1.out.old
  · obtain ⟨k, rfl⟩ := Int.eq_ofNat_of_zero_le (show 0 ≤ n by omega)
    have HK : Hid (k ≤ 64) := by show _ ≤ _; omega
    have HK1 : Hid (1 ≤ k) := by show _ ≤ _; omega
    have HX : Hid (newR (k : Int) = (⟨List.replicate k blankPg, 0, [], false, []⟩, 0)) := by
      show _ = _
      unfold newR
      rw [if_neg (by omega), Int.toNat_natCast]
    go_enter Try.func13, Try.ntmps13
    go_wp2_with (first | ((with_reducible refine wpList_alloc_ob 27 (dvCells nilS dvNil nilS nilS) ?_ ?_); (exact alloc_dv); simp only [Act.put, List.setIfInBounds_toArray, List.set_cons_zero, List.set_cons_succ]))
    refine (pblanks_k k _ HK1.out HK.out).mono ?_
    rintro e w3 ⟨v, rfl, hb, ho⟩
    have HS1 : Hid (Hp w [.ob (w.heap.size) 27 (dvCells nilS dvNil nilS nilS), .sl v 9 1 (k) (strRow (List.replicate k blankPg))] w3) := ((HS0.out).put 27 (dvCells nilS dvNil nilS nilS)).addown hb ho
    clear hb ho
    clear HS0
    obtain ⟨R, hrd, _, _⟩ := own_reads (HS1.out.own 1 rfl)
    obtain ⟨a, c, rfl, _⟩ := hrd
    go_wp2_with (first | ((with_reducible refine wpList_build_v 27 (.agg (dvCells (.slice a k c) dvNil nilS nilS).toArray) ?_ ?_); (intro W; simp only [List.map_toArray, List.map_cons, List.map_nil]; exact build_dv1 _ _ _ W); simp only [Act.put, List.setIfInBounds_toArray, List.set_cons_zero, List.set_cons_succ]) | ((with_reducible refine wpList_store_ob 27 (.tmp 2) (w.heap.size) (dvCells (.slice a k c) dvNil nilS nilS) (dvCells nilS dvNil nilS nilS) 27 ?_ ?_ ?_ ?_ ?_ ?_ ?_); (exact rfl); (exact rfl); (exact (HS1.out).get 0 rfl); (exact info_dv); (exact rfl); (exact (oneCell_dv _ _ _ _ _ _ _ _ _ _)); skip))
    have HS2 : Hid (Hp w [.ob (w.heap.size) 27 (dvCells (.slice a k c) dvNil nilS nilS), .sl ((.slice a k c)) 9 1 (k) (strRow (List.replicate k blankPg))] (w3.setRow (w.heap.size) (dvCells (.slice a k c) dvNil nilS nilS).toArray)) := (HS1.out).row 0 rfl (dvCells (.slice a k c) dvNil nilS nilS)
    clear HS1
    generalize (w3.setRow (w.heap.size) (dvCells (.slice a k c) dvNil nilS nilS).toArray) = w4 at *
    refine bodyPost_ret (results_ob_tmp Try.results13 _ _ (w.heap.size) (dvCells (.slice a k c) dvNil nilS nilS) 27 _ rfl (HS2.out.get 0 rfl) HUD.out rfl info_dv) rfl ?_
    obtain ⟨R', hrd', hin', hnew'⟩ := own_reads (HS2.out.own 1 rfl)
    rw [HX.out]
    exact ⟨.slice a k c, nilS, nilS, R', rfl, ⟨by show SlRd _ 1 (List.replicate k blankPg).length _ R'; rw [List.length_replicate]; exact hrd', SlRd.nil _ _, SlRd.nil _ _⟩, hin', fun r hr => .inl (hnew' r hr).1, HS2.out.old⟩
end Go.Proofs.Ythcjkbhkidijoaa
/- the program's Replace -/
namespace Go.Proofs.Ythcjkbhkidijoaa
open Go.RowKit
set_option maxRecDepth 20000
set_option linter.unusedSimpArgs false
set_option linter.unusedVariables false

theorem build_dv2 (a a' : Option Addr) (n c n' c' : Nat) (wr : Int) (d : Dv) (hd : d.writes = wr) (hdd : d.dead = false) (W : World) : Sem.run Try.prog (Instr.build 27 #[(0, .slice a n c), (1, .int .i64 wr), (4, .slice a' n' c')]) W = .ok (.agg (dvCells (.slice a n c) d nilS (.slice a' n' c')).toArray) W := by
  unfold dvCells
  rw [hd, hdd]
  kernel_rfl
set_option maxHeartbeats 16000000 in
theorem replace_any {p u f : Value} {d : Dv} {R : List Rng} (w : World) (h : DvRd p u f d R) (hR : RdIn w R) (hg : GoodDv d) (hf : d.faults.length ≤ 1000) :
    Calls Try.prog 29 #[.agg (dvCells p d u f).toArray] w (DvPost w R (replaceR d)) := by
  have HV : Hid (∀ W, Below w.heap.size w W → Calls Try.prog 22 #[.agg (dvCells p d u f).toArray] W fun e w' => e = .returned (.bool (dvOkB d)) ∧ Below W.heap.size W w') := fun W hb => valid_any W h (hR.below hb) hg
  have HCl : Hid (∀ W, Below w.heap.size w W → Calls Try.prog 41 #[f] W fun e w' => ∃ u, e = .returned u ∧ Below W.heap.size W w' ∧ w'.ownsRow W.heap.size 29 6 u d.faults.length (fltRow d.faults)) := fun W hb => cloneF_any d.faults f R W h.faults (hR.below hb) hf
  obtain ⟨fs, hud⟩ := under_dv
  have HUD := Lib.hid hud
  obtain ⟨fs2, huf⟩ := under_flt
  have HUF := Lib.hid huf
  clear hud huf
  obtain ⟨pa, pc, rfl, hp1, hp3, hP2⟩ := h.pages.open hR
  obtain ⟨ua, uc, rfl, hu1, hu3, hU2⟩ := h.unread.open hR
  obtain ⟨fa, fc, rfl, hf1, hf3, hF2⟩ := h.faults.open hR
  clear h hR hg hP2 hU2 hF2 hf
  have h1 := ((Hp.start w).put 27 (dvCells (.slice pa d.pages.length pc) d (.slice ua d.unread.length uc) (.slice fa d.faults.length fc))).put 27 (dvCells nilS dvNil nilS nilS)
  simp only [World.size_alloc, List.nil_append, List.cons_append] at h1
  have HS0 : Hid (Hp w [.ob w.heap.size 27 (dvCells (.slice pa d.pages.length pc) d (.slice ua d.unread.length uc) (.slice fa d.faults.length fc)), .ob (w.heap.size + 1) 27 (dvCells nilS dvNil nilS nilS)] ((w.alloc (.cells (dvCells (.slice pa d.pages.length pc) d (.slice ua d.unread.length uc) (.slice fa d.faults.length fc)).toArray 27)).alloc (.cells #[.slice none 0 0, .int .i64 0, .slice none 0 0, .bool false, .slice none 0 0] 27))) := h1
  clear h1 hp1 hp3 hu1 hu3 hf1 hf3
  go_enter Try.func29, Try.ntmps29
  go_wp2_with (first | ((with_reducible refine wpList_load_ob 27 (.tmp 1) (w.heap.size) (dvCells (.slice pa d.pages.length pc) d (.slice ua d.unread.length uc) (.slice fa d.faults.length fc)) 27 HUD.out ?_ ?_ ?_ ?_ ?_); (exact rfl); (exact (HS0.out).get 0 rfl); (exact rfl); (exact info_dv); simp only [Act.put, List.setIfInBounds_toArray, List.set_cons_zero, List.set_cons_succ]))
  refine (HV.out _ (HS0.out).old).mono ?_
  rintro e w3 ⟨rfl, hb⟩
  have HS2 : Hid (Hp w [.ob (w.heap.size) 27 (dvCells (.slice pa d.pages.length pc) d (.slice ua d.unread.length uc) (.slice fa d.faults.length fc)), .ob ((w.heap.size + 1)) 27 (dvCells nilS dvNil nilS nilS)] w3) := (HS0.out).calls hb
  clear hb
  clear HS0
  generalize (w.heap.size + 1) = B1 at *
  clear HV
  cases hv : dvOkB d
  case false =>
    have HX : Hid (dvOkB d = false) := hv
    clear hv
    go_wp2_with (first | ((with_reducible refine wpList_build_v 27 (.agg (dvCells nilS dvNil nilS nilS).toArray) ?_ ?_); (intro W; simp only [List.map_toArray, List.map_cons, List.map_nil]; exact build_dv0 W); simp only [Act.put, List.setIfInBounds_toArray, List.set_cons_zero, List.set_cons_succ]) | ((with_reducible refine wpList_store_ob 27 (.tmp 2) B1 (dvCells nilS dvNil nilS nilS) (dvCells nilS dvNil nilS nilS) 27 ?_ ?_ ?_ ?_ ?_ ?_ ?_); (exact rfl); (exact rfl); (exact (HS2.out).get 1 rfl); (exact info_dv); (exact rfl); (exact (oneCell_dv _ _ _ _ _ _ _ _ _ _)); skip))
    have HS3 : Hid (Hp w [.ob (w.heap.size) 27 (dvCells (.slice pa d.pages.length pc) d (.slice ua d.unread.length uc) (.slice fa d.faults.length fc)), .ob B1 27 (dvCells nilS dvNil nilS nilS)] (w3.setRow B1 (dvCells nilS dvNil nilS nilS).toArray)) := (HS2.out).row 1 rfl (dvCells nilS dvNil nilS nilS)
    clear HS2
    generalize (w3.setRow B1 (dvCells nilS dvNil nilS nilS).toArray) = w4 at *
    refine bodyPost_ret (results_ob_tmp Try.results29 _ _ B1 (dvCells nilS dvNil nilS nilS) 27 _ rfl (HS3.out.get 1 rfl) HUD.out rfl info_dv) rfl ?_
    exact DvPost.none (by unfold replaceR; rw [if_pos HX.out]) HS3.out.old
  case true =>
    have HX : Hid (¬ dvOkB d = false) := by show ¬ _; rw [hv]; decide
    have HOk := Lib.hid (ok_inv hv)
    have HOk2 : Hid (1 ≤ d.pages.length ∧ d.pages.length ≤ 64) := by
      have h1 := (ok_inv hv).2.1
      unfold dvOkB numsB at hv
      simp only [Bool.and_eq_true, Bool.not_eq_true', decide_eq_false_iff_not] at hv
      exact ⟨by omega, h1⟩
    clear hv
    go_upto_region 3 with (fail)
    refine wp_region_held_drew (S := fun w' => Hold w.heap.size [.ob (w.heap.size) 27 (dvCells (.slice pa d.pages.length pc) d (.slice ua d.unread.length uc) (.slice fa d.faults.length fc))] w') (by kernel_rfl) ((HS2.out).drew.pick [0] rfl) (fun hHeld => ?_)
    refine wpAnyH_take (i := 0) (oi := { dst := some 8, op := Op.fieldAddr 27 (Operand.tmp 1) 0, type := 0, pos := "device.go:217", after := #[], guard := none }) (v := ?q1v) rfl (by kernel_rfl) (by kernel_rfl) (by kernel_rfl) (fun _ _ _ h => h) (Or.inl ⟨by rfl, ?q1h⟩) hHeld ?q1r
    case q1h => (intro wq hSw; clear hSw; go_simp; try with_reducible rfl)
    try simp only [Act.put, List.setIfInBounds_toArray, List.set_cons_zero, List.set_cons_succ]
    refine wpAnyH_take (i := 1) (oi := { dst := some 9, op := Op.load 23 (Operand.tmp 8), type := 23, pos := "device.go:217", after := #[{ on := 0, ground := Ground.data }], guard := none }) (v := ?q2v) rfl (by kernel_rfl) (by kernel_rfl) (by kernel_rfl) (fun _ _ _ h => h) (Or.inl ⟨by rfl, ?q2h⟩) hHeld ?q2r
    case q2h => (intro wq hSw; have b0 := hSw.at 0 rfl 0 rfl; clear hSw; go_simp; try with_reducible rfl)
    try simp only [Act.put, List.setIfInBounds_toArray, List.set_cons_zero, List.set_cons_succ]
    refine wpAnyH_take (i := 2) (oi := { dst := some 10, op := Op.call { callee := Callee.builtin Builtin.len, args := #[Operand.tmp 9], argTypes := #[23] }, type := 3, pos := "device.go:217", after := #[{ on := 1, ground := Ground.data }], guard := none }) (v := ?q3v) rfl (by kernel_rfl) (by kernel_rfl) (by kernel_rfl) (fun _ _ _ h => h) (Or.inl ⟨by rfl, ?q3h⟩) hHeld ?q3r
    case q3h => (intro wq hSw; clear hSw; go_simp; try with_reducible rfl)
    try simp only [Act.put, List.setIfInBounds_toArray, List.set_cons_zero, List.set_cons_succ]
    refine wpAnyH_take (i := 4) (oi := { dst := some 12, op := Op.fieldAddr 27 (Operand.tmp 1) 1, type := 0, pos := "device.go:217", after := #[], guard := none }) (v := ?q4v) rfl (by kernel_rfl) (by kernel_rfl) (by kernel_rfl) (fun _ _ _ h => h) (Or.inl ⟨by rfl, ?q4h⟩) hHeld ?q4r
    case q4h => (intro wq hSw; clear hSw; go_simp; try with_reducible rfl)
    try simp only [Act.put, List.setIfInBounds_toArray, List.set_cons_zero, List.set_cons_succ]
    refine wpAnyH_take (i := 5) (oi := { dst := some 13, op := Op.load 3 (Operand.tmp 12), type := 3, pos := "device.go:217", after := #[{ on := 4, ground := Ground.data }], guard := none }) (v := ?q5v) rfl (by kernel_rfl) (by kernel_rfl) (by kernel_rfl) (fun _ _ _ h => h) (Or.inl ⟨by rfl, ?q5h⟩) hHeld ?q5r
    case q5h => (intro wq hSw; have b1 := hSw.at 0 rfl 1 rfl; clear hSw; go_simp; try with_reducible rfl)
    try simp only [Act.put, List.setIfInBounds_toArray, List.set_cons_zero, List.set_cons_succ]
    refine wpAnyH_take (i := 6) (oi := { dst := some 14, op := Op.fieldAddr 27 (Operand.tmp 1) 4, type := 0, pos := "device.go:217", after := #[], guard := none }) (v := ?q6v) rfl (by kernel_rfl) (by kernel_rfl) (by kernel_rfl) (fun _ _ _ h => h) (Or.inl ⟨by rfl, ?q6h⟩) hHeld ?q6r
    case q6h => (intro wq hSw; clear hSw; go_simp; try with_reducible rfl)
    try simp only [Act.put, List.setIfInBounds_toArray, List.set_cons_zero, List.set_cons_succ]
    refine wpAnyH_take (i := 7) (oi := { dst := some 15, op := Op.load 25 (Operand.tmp 14), type := 25, pos := "device.go:217", after := #[{ on := 6, ground := Ground.data }], guard := none }) (v := ?q7v) rfl (by kernel_rfl) (by kernel_rfl) (by kernel_rfl) (fun _ _ _ h => h) (Or.inl ⟨by rfl, ?q7h⟩) hHeld ?q7r
    case q7h => (intro wq hSw; have b4 := hSw.at 0 rfl 4 rfl; clear hSw; go_simp; try with_reducible rfl)
    try simp only [Act.put, List.setIfInBounds_toArray, List.set_cons_zero, List.set_cons_succ]
    refine wpAnyH_ready (rs := [3]) (by kernel_rfl) (by simp) ?_
    refine AllReadyH.cons (o := { dst := some 11, op := Op.call { callee := Callee.value (Operand.func 34), args := #[Operand.tmp 10], argTypes := #[3] }, type := 23, pos := "device.go:217", after := #[{ on := 2, ground := Ground.data }], guard := none }) rfl (fun K hK => ?_) (AllReadyH.nil)
    go_simp
    go_wp2_with (go_at_call 34; refine (pblanks_k d.pages.length _ HOk2.out.1 HOk2.out.2).mono ?_; rintro e w4 ⟨vp, rfl, hb, ho⟩)
    obtain ⟨ap, cp, rfl⟩ := own_slice ho
    have HS3 : Hid (Hp w [.ob (w.heap.size) 27 (dvCells (.slice pa d.pages.length pc) d (.slice ua d.unread.length uc) (.slice fa d.faults.length fc)), .ob B1 27 (dvCells nilS dvNil nilS nilS), .sl ((.slice ap d.pages.length cp)) 9 1 (d.pages.length) (strRow (List.replicate d.pages.length blankPg))] w4) := ((HS2.out).drew).addown hb ho
    refine hK.out _ _ (HS3.out.pick [0] rfl) (fun hHeld => ?_)
    clear hK K hb ho
    try simp only [Act.put, List.setIfInBounds_toArray, List.set_cons_zero, List.set_cons_succ]
    refine wpAnyH_ready (rs := [8]) (by kernel_rfl) (by simp) ?_
    refine AllReadyH.cons (o := { dst := some 16, op := Op.call { callee := Callee.value (Operand.func 41), args := #[Operand.tmp 15], argTypes := #[25] }, type := 25, pos := "device.go:217", after := #[{ on := 7, ground := Ground.data }, { on := 3, ground := Ground.chain }], guard := none }) rfl (fun K hK => ?_) (AllReadyH.nil)
    go_simp
    go_wp2_with (go_at_call 41; refine (HCl.out _ (HS3.out).old).mono ?_; rintro e w5 ⟨vf, rfl, hb, ho⟩)
    obtain ⟨af, cf, rfl⟩ := own_slice ho
    have HS4 : Hid (Hp w [.ob (w.heap.size) 27 (dvCells (.slice pa d.pages.length pc) d (.slice ua d.unread.length uc) (.slice fa d.faults.length fc)), .ob B1 27 (dvCells nilS dvNil nilS nilS), .sl ((.slice ap d.pages.length cp)) 9 1 (d.pages.length) (strRow (List.replicate d.pages.length blankPg)), .sl ((.slice af d.faults.length cf)) 29 6 (d.faults.length) (fltRow d.faults)] w5) := (HS3.out).addown hb ho
    refine hK.out _ _ (HS4.out.pick [0] rfl) (fun hHeld => ?_)
    clear hK K hb ho
    try simp only [Act.put, List.setIfInBounds_toArray, List.set_cons_zero, List.set_cons_succ]
    refine wpAnyH_take (i := 9) (oi := { dst := some 17, op := Op.build 27 #[(0, Operand.tmp 11), (1, Operand.tmp 13), (4, Operand.tmp 16)], type := 27, pos := "device.go:217", after := #[{ on := 3, ground := Ground.data }, { on := 5, ground := Ground.data }, { on := 8, ground := Ground.data }], guard := none }) rfl (by kernel_rfl) (by kernel_rfl) (by kernel_rfl) (fun _ _ _ h => h) (yieldsIf_build_v (by rfl) 27 (.agg (dvCells (.slice ap d.pages.length cp) (⟨List.replicate d.pages.length blankPg, d.writes, [], false, d.faults⟩ : Dv) nilS (.slice af d.faults.length cf)).toArray) rfl (fun W => by simp only [List.map_toArray, List.map_cons, List.map_nil]; exact build_dv2 _ _ _ _ _ _ _ (⟨List.replicate d.pages.length blankPg, d.writes, [], false, d.faults⟩ : Dv) rfl rfl W)) hHeld ?_
    try simp only [Act.put, List.setIfInBounds_toArray, List.set_cons_zero, List.set_cons_succ]
    refine wpAnyH_ready (rs := [10]) (by kernel_rfl) (by simp) ?_
    refine AllReadyH.cons (o := { dst := none, op := Op.store 27 (Operand.tmp 2) (Operand.tmp 17), type := 0, pos := "device.go:217", after := #[{ on := 9, ground := Ground.data }, { on := 8, ground := Ground.chain }, { on := 0, ground := Ground.phase }, { on := 1, ground := Ground.phase }, { on := 2, ground := Ground.phase }, { on := 3, ground := Ground.phase }, { on := 4, ground := Ground.phase }, { on := 5, ground := Ground.phase }, { on := 6, ground := Ground.phase }, { on := 7, ground := Ground.phase }, { on := 8, ground := Ground.phase }, { on := 9, ground := Ground.phase }], guard := none }) rfl (fun K hK => ?_) (AllReadyH.nil)
    rw [if_pos (by rfl)]
    refine wp_store_ob 27 (.tmp 2) (.tmp 17) B1 (dvCells (.slice ap d.pages.length cp) (⟨List.replicate d.pages.length blankPg, d.writes, [], false, d.faults⟩ : Dv) nilS (.slice af d.faults.length cf)) (dvCells nilS dvNil nilS nilS) 27 rfl rfl rfl rfl ((HS4.out).get 1 rfl) (info_dv) (rfl) ((oneCell_dv _ _ _ _ _ _ _ _ _ _)) ?_
    have HS5 : Hid (Hp w [.ob (w.heap.size) 27 (dvCells (.slice pa d.pages.length pc) d (.slice ua d.unread.length uc) (.slice fa d.faults.length fc)), .ob B1 27 (dvCells (.slice ap d.pages.length cp) (⟨List.replicate d.pages.length blankPg, d.writes, [], false, d.faults⟩ : Dv) nilS (.slice af d.faults.length cf)), .sl ((.slice ap d.pages.length cp)) 9 1 (d.pages.length) (strRow (List.replicate d.pages.length blankPg)), .sl ((.slice af d.faults.length cf)) 29 6 (d.faults.length) (fltRow d.faults)] (w5.setRow B1 (dvCells (.slice ap d.pages.length cp) (⟨List.replicate d.pages.length blankPg, d.writes, [], false, d.faults⟩ : Dv) nilS (.slice af d.faults.length cf)).toArray)) := (HS4.out).row 1 rfl (dvCells (.slice ap d.pages.length cp) (⟨List.replicate d.pages.length blankPg, d.writes, [], false, d.faults⟩ : Dv) nilS (.slice af d.faults.length cf))
    refine hK.out _ _ (HS5.out.pick [0] rfl) (fun hHeld => ?_)
    clear hK K
    generalize (w5.setRow B1 (dvCells (.slice ap d.pages.length cp) (⟨List.replicate d.pages.length blankPg, d.writes, [], false, d.faults⟩ : Dv) nilS (.slice af d.faults.length cf)).toArray) = w6 at *
    try simp only [Act.put, List.setIfInBounds_toArray, List.set_cons_zero, List.set_cons_succ]
    refine wpAnyH_take (i := 11) (oi := { dst := some 3, op := Op.assign (Operand.const (Value.int IntKind.i64 0)), type := 35, pos := "device.go:217", after := #[{ on := 10, ground := Ground.chain }, { on := 0, ground := Ground.phase }, { on := 1, ground := Ground.phase }, { on := 2, ground := Ground.phase }, { on := 3, ground := Ground.phase }, { on := 4, ground := Ground.phase }, { on := 5, ground := Ground.phase }, { on := 6, ground := Ground.phase }, { on := 7, ground := Ground.phase }, { on := 8, ground := Ground.phase }, { on := 9, ground := Ground.phase }, { on := 10, ground := Ground.phase }], guard := none }) (v := ?q9v) rfl (by kernel_rfl) (by kernel_rfl) (by kernel_rfl) (fun _ _ _ h => h) (Or.inl ⟨by rfl, ?q9h⟩) hHeld ?q9r
    case q9h => (intro wq hSw; clear hSw; go_simp; try with_reducible rfl)
    try simp only [Act.put, List.setIfInBounds_toArray, List.set_cons_zero, List.set_cons_succ]
    refine wpAnyH_done (by kernel_rfl) ?_ _
    go_wp2_with fail
    refine bodyPost_ret (results_ob_tmp Try.results29 _ _ B1 (dvCells (.slice ap d.pages.length cp) (⟨List.replicate d.pages.length blankPg, d.writes, [], false, d.faults⟩ : Dv) nilS (.slice af d.faults.length cf)) 27 _ rfl (HS5.out.get 1 rfl) HUD.out rfl info_dv) rfl ?_
    have hpo := HS5.out.own 2 rfl
    obtain ⟨R', hrd, hin, hnew⟩ := own_dv (u := nilS) (d := (⟨List.replicate d.pages.length blankPg, d.writes, [], false, d.faults⟩ : Dv)) (B := w.heap.size) (by rw [List.length_replicate]; exact hpo) ⟨rfl, .inl ⟨rfl, rfl⟩⟩ (HS5.out.own 3 rfl)
    have hres : replaceR d = ((⟨List.replicate d.pages.length blankPg, d.writes, [], false, d.faults⟩ : Dv), 0) := by unfold replaceR; rw [if_neg HX.out]
    rw [hres]
    exact ⟨_, _, _, R', rfl, hrd, hin, fun r hr => .inl (hnew r hr), HS5.out.old⟩
end Go.Proofs.Ythcjkbhkidijoaa
/- devices that are valid, and what the functions of chapter 4 make of them -/
namespace Go.Proofs.Ythcjkbhkidijoaa
open Go.RowKit
set_option maxRecDepth 20000
set_option linter.unusedSimpArgs false
set_option linter.unusedVariables false

/-- a valid device of n pages, whose faults' numbers are numbers -/
structure DvOk (d : Dv) : Prop where
  some : 1 ≤ d.pages.length ∧ d.pages.length ≤ 64
  all : ∀ s ∈ d.pages, s.size = 256
  asc : d.unread.Pairwise (· < ·)
  unr : ∀ x ∈ d.unread, 0 ≤ x ∧ x < (d.pages.length : Int)
  wr : 0 ≤ d.writes ∧ d.writes ≤ 1099511627776
  few : d.faults.length ≤ 64
  flt : ∀ x ∈ d.faults, fltOkB d.pages.length d.writes x = true
  good : ∀ x ∈ d.faults, GoodFlt x
theorem asc_few {l : List Int} {n : Nat} (h : l.Pairwise (· < ·)) (hr : ∀ x ∈ l, 0 ≤ x ∧ x < (n : Int)) : l.length ≤ n := by
  have hge : ∀ i (hi : i < l.length), (i : Int) ≤ l[i] := by
    intro i
    induction i with
    | zero => intro hi; exact (hr _ (List.getElem_mem hi)).1
    | succ i ih =>
      intro hi
      have h9 := ih (by omega)
      have h10 := List.pairwise_iff_getElem.1 h i (i + 1) (by omega) hi (Nat.lt_succ_self _)
      omega
  rcases Nat.eq_zero_or_pos l.length with h0 | h0
  · omega
  · have h9 := hge (l.length - 1) (by omega)
    have h10 := (hr _ (List.getElem_mem (show l.length - 1 < l.length by omega))).2
    omega
theorem DvOk.ok {d : Dv} (h : DvOk d) : dvOkB d = true := by
  unfold dvOkB
  rw [Bool.and_eq_true, Bool.and_eq_true, Bool.and_eq_true]
  refine ⟨?_, List.all_eq_true.2 (fun s hs => by simpa using h.all s hs), ?_, List.all_eq_true.2 h.flt⟩
  · unfold numsB
    simp only [Bool.and_eq_true, Bool.not_eq_true', decide_eq_false_iff_not]
    have h1 := h.some
    have h2 := h.wr
    have h3 := h.few
    omega
  · refine List.all_eq_true.2 (fun i hi => ?_)
    have hi' := List.mem_range.1 hi
    have h1 := h.unr _ (List.getElem_mem hi')
    have e : d.unread.getD i 0 = d.unread[i] := by rw [List.getD_eq_getElem?_getD, List.getElem?_eq_getElem hi']; rfl
    unfold unreadAtB
    rw [e]
    simp only [Bool.and_eq_true, Bool.not_eq_true', decide_eq_false_iff_not, Bool.and_eq_false_iff]
    refine ⟨by omega, by omega, ?_⟩
    rcases Nat.eq_zero_or_pos i with h0 | h0
    · left; omega
    · right
      have h2 := List.pairwise_iff_getElem.1 h.asc (i - 1) i (by omega) hi' (by omega)
      have e2 : d.unread.getD (i - 1) 0 = d.unread[i - 1]'(by omega) := by rw [List.getD_eq_getElem?_getD, List.getElem?_eq_getElem (by omega)]; rfl
      rw [e2]
      omega
theorem unr_of_ok {d : Dv} (h : dvOkB d = true) : ∀ x ∈ d.unread, 0 ≤ x ∧ x < (d.pages.length : Int) := by
  intro x hx
  obtain ⟨i, hi, rfl⟩ := List.getElem_of_mem hx
  unfold dvOkB at h
  simp only [Bool.and_eq_true] at h
  have hb := (List.all_eq_true.1 h.2.2.1) i (List.mem_range.2 hi)
  have e : d.unread.getD i 0 = d.unread[i] := by rw [List.getD_eq_getElem?_getD, List.getElem?_eq_getElem hi]; rfl
  unfold unreadAtB at hb
  rw [e] at hb
  simp only [Bool.and_eq_true, Bool.not_eq_true', decide_eq_false_iff_not] at hb
  omega
theorem dvOk_of {d : Dv} (h : dvOkB d = true) (hg : ∀ x ∈ d.faults, GoodFlt x) : DvOk d := by
  obtain ⟨h1, h2, h3, h4, h5, h6⟩ := ok_inv h
  have h7 : 1 ≤ d.pages.length := by
    unfold dvOkB numsB at h
    simp only [Bool.and_eq_true, Bool.not_eq_true', decide_eq_false_iff_not] at h
    omega
  exact ⟨⟨h7, h2⟩, h1.all, h1.asc, unr_of_ok h, ⟨h4, h5⟩, h3, h6, hg⟩
theorem DvOk.goodDv {d : Dv} (h : DvOk d) : GoodDv d := ⟨h.good, fun s hs => by rw [h.all s hs]; decide, by have := asc_few h.asc h.unr; have := h.some; omega⟩
theorem DvOk.pg {d : Dv} (h : DvOk d) : d.pages.length ≤ 1000 := by have := h.some; omega
theorem DvOk.fl {d : Dv} (h : DvOk d) : d.faults.length ≤ 1000 := by have := h.few; omega
theorem new_ok {n : Nat} (h : 1 ≤ n ∧ n ≤ 64) : newR n = (⟨List.replicate n blankPg, 0, [], false, []⟩, 0) ∧ DvOk ⟨List.replicate n blankPg, 0, [], false, []⟩ := by
  refine ⟨by unfold newR; rw [if_neg (by omega), Int.toNat_natCast], ?_⟩
  exact ⟨by simpa using h, fun s hs => by rw [List.eq_of_mem_replicate hs]; rfl, List.Pairwise.nil, by simp, ⟨Int.le_refl _, by show (0 : Int) ≤ 1099511627776; decide⟩, by simp, by simp, by simp⟩
theorem usable_zero {d : Dv} (h : DvOk d) (hd : d.dead = false) {k : Nat} (hk : k < d.pages.length) : usableR d (k : Int) = 0 := by
  unfold usableR
  rw [if_neg (by rw [h.ok]; decide), if_neg (by rw [hd]; decide), if_neg (by omega)]
theorem happen_unr {d : Dv} {x : Flt} (hx : 0 ≤ x.page ∧ x.page < (d.pages.length : Int)) (h : ∀ y ∈ d.unread, 0 ≤ y ∧ y < (d.pages.length : Int)) : ∀ y ∈ (happenR d x).unread, 0 ≤ y ∧ y < (d.pages.length : Int) := by
  unfold happenR
  split
  · exact h
  · split
    · intro y hy
      rcases with_mem hy with h1 | h1
      · rw [h1]; exact hx
      · exact h y h1
    · split
      · exact h
      · exact h
theorem happen_num (d : Dv) (x : Flt) : (happenR d x).pages.length = d.pages.length := by
  unfold happenR
  split
  · simp
  · split
    · rfl
    · split <;> rfl
theorem happen_wr (d : Dv) (x : Flt) : (happenR d x).writes = d.writes := by
  unfold happenR
  split
  · rfl
  · split
    · rfl
    · split <;> rfl
theorem fold_keep : ∀ (l : List Flt) (d : Dv), (∀ x ∈ l, 0 ≤ x.page ∧ x.page < (d.pages.length : Int)) → (∀ y ∈ d.unread, 0 ≤ y ∧ y < (d.pages.length : Int)) → (l.foldl happenR d).pages.length = d.pages.length ∧ (l.foldl happenR d).writes = d.writes ∧ ∀ y ∈ (l.foldl happenR d).unread, 0 ≤ y ∧ y < (d.pages.length : Int)
  | [], d, _, h => ⟨rfl, rfl, h⟩
  | x :: l, d, hl, h => by
    have e := happen_num d x
    have h1 := happen_unr (hl x (List.mem_cons_self ..)) h
    have := fold_keep l (happenR d x) (fun y hy => by rw [e]; exact hl y (List.mem_cons_of_mem _ hy)) (by rw [e]; exact h1)
    rw [e] at this
    exact ⟨this.1, this.2.1.trans (happen_wr d x), this.2.2⟩
theorem land_keep (d : Dv) (page : Int) (s : ByteArray) : ∀ l : List Flt, (∀ y ∈ d.unread, 0 ≤ y ∧ y < (d.pages.length : Int)) → (landR d page s l).pages.length = d.pages.length ∧ (landR d page s l).writes = d.writes ∧ ∀ y ∈ (landR d page s l).unread, 0 ≤ y ∧ y < (d.pages.length : Int)
  | [], h => ⟨by simp [landR, placeR], rfl, fun y hy => h y (List.mem_filter.1 hy).1⟩
  | x :: l, h => by
    unfold landR
    split
    · exact ⟨rfl, rfl, h⟩
    · split
      · exact ⟨by simp [placeR], rfl, fun y hy => h y (List.mem_filter.1 hy).1⟩
      · split
        · exact ⟨by simp [placeR], rfl, fun y hy => h y (List.mem_filter.1 hy).1⟩
        · exact land_keep d page s l h
theorem flt_later {n : Nat} {w : Int} {x : Flt} (h : fltOkB n w x = true) (hne : ¬ x.at_ = w + 1) : fltOkB n (w + 1) x = true := by
  unfold fltOkB rangesB at h ⊢
  simp only [Bool.and_eq_true, Bool.not_eq_true', decide_eq_false_iff_not] at h ⊢
  obtain ⟨⟨h1, h2⟩, h3⟩ := h
  exact ⟨⟨by omega, h2⟩, h3⟩
/-- a write that is not refused leaves a valid device -/
theorem write_ok {d : Dv} (h : DvOk d) (hd : d.dead = false) {k : Nat} (hk : k < d.pages.length) {s : ByteArray} (hs : s.size = 256) (hw : d.writes ≠ 1099511627776) :
    writeR d k s = ((nowR d).foldl happenR (landR ⟨d.pages, d.writes + 1, d.unread, d.dead, laterR d⟩ k s (nowR d)), 0) ∧ DvOk (writeR d k s).1 := by
  have hu := usable_zero h hd hk
  have e : writeR d k s = ((nowR d).foldl happenR (landR ⟨d.pages, d.writes + 1, d.unread, d.dead, laterR d⟩ k s (nowR d)), 0) := by
    unfold writeR
    rw [if_neg (by rw [hu]; decide), if_neg (fun h => h hs), if_neg hw]
  refine ⟨e, ?_⟩
  rw [e]
  have hnow : ∀ x ∈ nowR d, ((0 ≤ x.target ∧ x.target < (d.pages.length : Int)) ∧ (0 ≤ x.byte ∧ x.byte < 256) ∧ (0 ≤ x.page ∧ x.page < (d.pages.length : Int))) := fun x hx => flt_ranges (h.flt x (List.mem_filter.1 hx).1)
  have hi : DvInv d.pages.length 64 ⟨d.pages, d.writes + 1, d.unread, d.dead, laterR d⟩ := ⟨rfl, h.all, h.asc, by have := asc_few h.asc h.unr; have := h.some; show d.unread.length ≤ 64; omega⟩
  have hl := land_inv hi k ⟨by omega, by omega⟩ s hs (nowR d) (fun x hx => ⟨(hnow x hx).1, (hnow x hx).2.1⟩)
  have hf := fold_inv (nowR d) hl
  obtain ⟨k1, k2, k3⟩ := land_keep ⟨d.pages, d.writes + 1, d.unread, d.dead, laterR d⟩ k s (nowR d) h.unr
  obtain ⟨f1, f2, f3⟩ := fold_keep (nowR d) (landR ⟨d.pages, d.writes + 1, d.unread, d.dead, laterR d⟩ k s (nowR d)) (fun x hx => by rw [k1]; exact (hnow x hx).2.2) (by rw [k1]; exact k3)
  have hfl : ((nowR d).foldl happenR (landR ⟨d.pages, d.writes + 1, d.unread, d.dead, laterR d⟩ k s (nowR d))).faults = laterR d := by rw [fold_faults, land_faults]
  have f2' : ((nowR d).foldl happenR (landR ⟨d.pages, d.writes + 1, d.unread, d.dead, laterR d⟩ k s (nowR d))).writes = d.writes + 1 := f2.trans k2
  have f1' : ((nowR d).foldl happenR (landR ⟨d.pages, d.writes + 1, d.unread, d.dead, laterR d⟩ k s (nowR d))).pages.length = d.pages.length := f1.trans k1
  refine ⟨by show 1 ≤ (List.length _) ∧ _; rw [f1']; exact h.some, hf.all, hf.asc, fun x hx => ?_, ?_, ?_, ?_, ?_⟩
  · have := f3 x hx
    rw [k1] at this
    show 0 ≤ x ∧ x < ((List.length _ : Nat) : Int)
    rw [f1']
    exact this
  · show 0 ≤ Dv.writes _ ∧ Dv.writes _ ≤ _
    rw [f2']
    have := h.wr
    omega
  · show (Dv.faults _).length ≤ 64
    rw [hfl]
    exact Nat.le_trans (List.length_filter_le _ _) h.few
  · intro x hx
    have hx' : x ∈ laterR d := by rw [← hfl]; exact hx
    show fltOkB (List.length _) (Dv.writes _) x = true
    rw [f1', f2']
    have hm := List.mem_filter.1 hx'
    exact flt_later (h.flt x hm.1) (by simpa using hm.2)
  · intro x hx
    have hx' : x ∈ laterR d := by rw [← hfl]; exact hx
    exact h.good x (List.mem_filter.1 hx').1
theorem inject_ok {d : Dv} (h : DvOk d) {x : Flt} (hx : fltOkB d.pages.length d.writes x = true) (hg : GoodFlt x) (hl : d.faults.length < 64) : injectR d x = (⟨d.pages, d.writes, d.unread, d.dead, d.faults ++ [x]⟩, 0) ∧ DvOk ⟨d.pages, d.writes, d.unread, d.dead, d.faults ++ [x]⟩ := by
  refine ⟨by unfold injectR; rw [if_neg (by rw [h.ok]; decide), if_neg (by rw [hx]; decide), if_neg (by omega)], ⟨h.some, h.all, h.asc, h.unr, h.wr, by simp; omega, fun y hy => ?_, fun y hy => ?_⟩⟩
  · rcases List.mem_append.1 hy with h1 | h1
    · exact h.flt y h1
    · rw [List.mem_singleton.1 h1]; exact hx
  · rcases List.mem_append.1 hy with h1 | h1
    · exact h.good y h1
    · rw [List.mem_singleton.1 h1]; exact hg
theorem tear_ok {d : Dv} (h : DvOk d) (hd : d.dead = false) {k : Nat} (hk : k < d.pages.length) {s : ByteArray} (hs : s.size = 256) {c : Nat} (hc : c ≤ 256) : tearR d k s c = (placeR d k s c, 0) ∧ DvOk (placeR d k s c) := by
  have hu := usable_zero h hd hk
  refine ⟨by unfold tearR; rw [if_neg (by rw [hu]; decide), if_neg (by omega), if_neg (fun h => h hs), Int.toNat_natCast], ?_⟩
  have hi : DvInv d.pages.length 64 d := ⟨rfl, h.all, h.asc, by have := asc_few h.asc h.unr; have := h.some; omega⟩
  have hp := place_inv hi k ⟨by omega, by omega⟩ s hs c hc
  have hn : (placeR d k s c).pages.length = d.pages.length := hp.num
  refine ⟨by show 1 ≤ List.length _ ∧ _; rw [hn]; exact h.some, hp.all, hp.asc, fun x hx => ?_, h.wr, h.few, ?_, h.good⟩
  · show 0 ≤ x ∧ x < ((List.length _ : Nat) : Int)
    rw [hn]
    exact h.unr x (List.mem_filter.1 hx).1
  · intro x hx
    show fltOkB (List.length _) _ x = true
    rw [hn]
    exact h.flt x hx
theorem replace_ok {d : Dv} (h : DvOk d) : replaceR d = (⟨List.replicate d.pages.length blankPg, d.writes, [], false, d.faults⟩, 0) ∧ DvOk ⟨List.replicate d.pages.length blankPg, d.writes, [], false, d.faults⟩ := by
  refine ⟨by unfold replaceR; rw [if_neg (by rw [h.ok]; decide)], ⟨by simpa using h.some, fun s hs => by rw [List.eq_of_mem_replicate hs]; rfl, List.Pairwise.nil, by simp, h.wr, h.few, fun x hx => ?_, h.good⟩⟩
  show fltOkB (List.length _) _ x = true
  rw [List.length_replicate]
  exact h.flt x hx
theorem read_ok {d : Dv} (h : DvOk d) (hd : d.dead = false) {k : Nat} (hk : k < d.pages.length) (hu : (k : Int) ∉ d.unread) : readR d k = (d.pages[k], 0) := by
  have hz := usable_zero h hd hk
  unfold readR
  have hh : hasB d.unread k = false := by
    unfold hasB
    rw [List.any_eq_false]
    intro x hx
    simp only [decide_eq_true_eq]
    intro e
    rw [e] at hx
    exact hu hx
  rw [if_neg (by rw [hz]; decide), if_neg (by rw [hh]; decide), Int.toNat_natCast, List.getD_eq_getElem?_getD, List.getElem?_eq_getElem hk]
  rfl
theorem dv_as {f : FuncId} {args : Array Value} {w w1 : World} {R : List Rng} {x y : Dv × Int} (h : x = y) (c : Calls Try.prog f args w (DvPost w1 R x)) : Calls Try.prog f args w (DvPost w1 R y) := h ▸ c
end Go.Proofs.Ythcjkbhkidijoaa
/- the choices of a law's walk, as a thing -/
namespace Go.Proofs.Ythcjkbhkidijoaa
open Go.RowKit
set_option maxRecDepth 20000

theorem row_lo {w : World} {x : Option Addr} {len cap : Nat} {zs : List Int} (hr : IsRow .u8 w x len cap zs) (h0 : 0 < len) : ∀ b off, x = some ⟨b, off, none⟩ → b < w.heap.size := by
  intro b off hx
  rcases hr with ⟨_, h, _, _⟩ | ⟨y, hy, _, _, hz, hc, _⟩
  · omega
  · have := World.block_lt_of_cell? w _ (hc 0 (by omega))
    rw [hx] at hy
    cases hy
    simpa [Addr.add] using this
theorem new_hp (m : Nat) (hm : m ≤ 1000) {w0 w : World} {L : List Th} {x : Option Addr} {len cap : Nat} {zs : List Int} (h : Hp w0 L w) (hr : IsRow .u8 w0 x len cap zs) :
    Calls Try.prog 11 #[.slice x len cap, .int .i64 m] w fun e w' => e = .returned (.pointer (some ⟨w.heap.size, 0, none⟩)) ∧ Hp w0 (L ++ [.cd w.heap.size]) w' :=
  (new_at m hm x len cap zs w (row_below hr h.old)).mono fun _ _ ⟨h1, h2, h3, l, c, h4, h5⟩ => ⟨h1, h.begin h2 h3 ⟨x, l, c, h4, fun hl => row_lo hr (h5 hl)⟩⟩
end Go.Proofs.Ythcjkbhkidijoaa
/- the choices of the drawing package: how many are left -/
namespace Go.Proofs.Ythcjkbhkidijoaa
open Go.RowKit
set_option maxRecDepth 20000

/-- how many choices are left at block C -/
def leftIn (w : World) (C : Nat) : Nat := match w.cell? ⟨C, 0, none⟩, w.cell? ⟨C, 1, none⟩ with
  | some (.slice _ len _), some (.int _ i) => ((len : Int) - i).toNat
  | _, _ => 0
theorem CodesAt.left {w : World} {C len cap : Nat} {a : Option Addr} {i : Int} (h : CodesAt w C a len cap i) : leftIn w C = ((len : Int) - i).toNat := by
  unfold leftIn
  rw [h.2.1, h.2.2.1]
theorem leftIn_of {w w' : World} {C : Nat} (h : w'.heap[C]? = w.heap[C]?) : leftIn w' C = leftIn w C := by
  unfold leftIn
  rw [World.cell?_of_block (a := ⟨C, 0, none⟩) h, World.cell?_of_block (a := ⟨C, 1, none⟩) h]
theorem leftIn_below {w w' : World} {C B : Nat} (hb : Below B w w') (hC : C < B) : leftIn w' C = leftIn w C := leftIn_of (hb.block C hC)
theorem leftIn_drewN (w : World) (q C : Nat) : leftIn (w.drewN q) C = leftIn w C := rfl
theorem leftIn_next {w : World} {C len cap : Nat} {a : Option Addr} {i : Int} (h : CodesAt w C a len cap i) : leftIn (w.setCell ⟨C, 1, none⟩ (.int .i64 (i + 1))) C ≤ leftIn w C - 1 := by
  rw [h.left]
  unfold leftIn
  rw [World.cell?_setCell_other w _ _ _ (by intro h; cases h), h.2.1, World.cell?_setCell_same w _ _ h.2.2.1]
  show ((len : Int) - (i + 1)).toNat ≤ _
  omega
def NextL (C : Nat) (n : Int) (w : World) (e : Ending) (w' : World) : Prop :=
  ∃ x : Int, e = .returned (.int .i64 x) ∧ 0 ≤ x ∧ (x < n ∨ x = 0) ∧ Besides C w w' ∧ CodesOk w' C ∧ leftIn w' C ≤ leftIn w C - 1
set_option maxHeartbeats 400000 in
theorem left_end (C : Nat) (a : Option Addr) (len cap : Nat) (i n : Int) (w : World) (h : CodesAt w C a len cap i) (hl : (len : Int) ≤ i) :
    Calls Try.prog 17 #[.pointer (some ⟨C, 0, none⟩), .int .i64 n] w (NextL C n w) := by
  have HK : Hid (CodesOk w C) := ⟨a, len, cap, i, h⟩
  have HZ : Hid (leftIn w C = 0) := by show _ = _; rw [h.left]; omega
  have h1 := h.2.1
  have h2 := h.2.2.1
  clear h
  have d1 : decide ((len : Int) ≤ i) = true := by simpa using hl
  go_enter Try.func17, Try.ntmps17
  go_wp2
  go_quiet (fail)
  go_wp2
  go_ret
  exact ⟨0, rfl, Int.le_refl _, Or.inr rfl, (Besides.refl _ _).drewN _, HK.out.drewN _, by rw [leftIn_drewN, HZ.out]; exact Nat.le_refl _⟩
set_option maxHeartbeats 400000 in
theorem left_neg (C : Nat) (a : Option Addr) (len cap : Nat) (i n : Int) (w : World) (h : CodesAt w C a len cap i) (hn : n < 1) :
    Calls Try.prog 17 #[.pointer (some ⟨C, 0, none⟩), .int .i64 n] w fun e w' => ∃ x : Int, e = .returned (.int .i64 x) ∧ 0 ≤ x ∧ (x < n ∨ x = 0) ∧ Besides C w w' ∧ CodesOk w' C ∧ leftIn w' C ≤ leftIn w C := by
  have HK : Hid (CodesOk w C) := ⟨a, len, cap, i, h⟩
  have HZ0 := Lib.hid h
  have h1 := h.2.1
  have h2 := h.2.2.1
  clear h
  by_cases hl : (len : Int) ≤ i
  · exact (left_end C a len cap i n w HZ0.out hl).mono fun e w' ⟨x, h1, h2, h3, h4, h5, h6⟩ => ⟨x, h1, h2, h3, h4, h5, by omega⟩
  · have d1 : decide ((len : Int) ≤ i) = false := by simpa using hl
    have d2 : decide (n < 1) = true := by simpa using hn
    go_enter Try.func17, Try.ntmps17
    go_wp2
    go_quiet (fail)
    go_wp2
    go_ret
    exact ⟨0, rfl, Int.le_refl _, Or.inr rfl, (Besides.refl _ _).drewN _, HK.out.drewN _, Nat.le_refl _⟩
set_option maxHeartbeats 400000 in
theorem left_small (C : Nat) (n : Int) (w : World) (h : CodesOk w C) (h1n : 1 ≤ n) (hn : n ≤ 256) :
    Calls Try.prog 17 #[.pointer (some ⟨C, 0, none⟩), .int .i64 n] w (NextL C n w) := by
  obtain ⟨a, len, cap, i, h⟩ := h
  by_cases hz : (len : Int) ≤ i
  · exact left_end C a len cap i n w h hz
  have hi : i < len := by omega
  have HK : Hid (∀ q : Nat, CodesOk ((w.drewN q).setCell ⟨C, 1, none⟩ (.int .i64 (i + 1))) C) := fun q => (h.keep (w' := w.drewN q) (Nat.le_refl _) (fun _ _ => rfl)).next hi
  have HLf : Hid (∀ q : Nat, leftIn ((w.drewN q).setCell ⟨C, 1, none⟩ (.int .i64 (i + 1))) C ≤ leftIn w C - 1) := fun q => leftIn_next (w := w.drewN q) (h.keep (w' := w.drewN q) (Nat.le_refl _) (fun _ _ => rfl))
  obtain ⟨h0, h1, h2, h3, h4, h5, h6, h7⟩ := h
  obtain ⟨b, off, rfl, hbC, hcell⟩ := h7 (by omega)
  obtain ⟨k, rfl⟩ := Int.eq_ofNat_of_zero_le h4
  obtain ⟨z, hzc, z0, z1⟩ := hcell k (by omega)
  clear hcell h7 hz
  have d1 : decide (len ≤ k) = false := by simp; omega
  have d2 : decide (n < 1) = false := by simp; omega
  have hk : (k : Int) < (len : Int) := by omega
  have hk0 : (0 : Int) ≤ (k : Int) := by omega
  have hg : ¬ 256 < n := by omega
  have dz := Int.emod_nonneg z (show n ≠ 0 by omega)
  have dz2 := Int.emod_lt_of_pos z (show 0 < n by omega)
  go_enter Try.func17, Try.ntmps17
  go_wp2
  go_quiet (fail)
  go_wp2
  go_quiet (fail)
  go_wp2
  go_ret
  exact ⟨z % n, rfl, dz, Or.inl dz2, ((Besides.refl _ _).drewN _).set _ _ (by decide), HK.out _, HLf.out _⟩
set_option maxHeartbeats 1000000 in
theorem bytes_left (C : Nat) (w : World) (h : CodesOk w C) :
    Calls Try.prog 18 #[.pointer (some ⟨C, 0, none⟩)] w fun e w' => ∃ s : ByteArray, e = .returned (.string s) ∧ s.size = 256 ∧ Besides C w w' ∧ CodesOk w' C ∧ leftIn w' C ≤ leftIn w C := by
  have HK := Lib.hid h
  clear h
  have hmk : Sem.run Try.prog (Instr.makeSlice 22 (.int .i64 256) (.int .i64 256)) w = .ok (.slice (some ⟨w.heap.size, 0, none⟩) 256 256) (w.alloc (.cells (madeCells #[.int .u8 0] 256) 5)) :=
    run_make_row' 22 5 (.int .u8 0) 1 Try.underlying22 info_byte rfl .i64 .i64 256 (by decide) (by decide) w
  rw [made_row] at hmk
  have hlen := len_rep 256
  generalize List.replicate 256 (0 : UInt8) = L0 at hmk hlen
  have HRa : Hid (RowIn (w.alloc (.cells (L0.map (fun b => Value.int .u8 (b.toNat : Int))).toArray 5 (0, 0))) w.heap.size L0) := heap_alloc_last w _
  generalize (L0.map (fun b => Value.int .u8 (b.toNat : Int))).toArray = cells0 at hmk HRa
  have HL0 := Lib.hid hlen
  clear hlen
  go_enter Try.func18, Try.ntmps18
  go_wp2_with fail
  refine (left_small C 256 _ (HK.out.below ((Below.refl _ _).alloc (Nat.le_refl _) _) HK.out.lt) (by omega) (by omega)).mono ?_
  rintro e w2 ⟨x, rfl, x0, x1, hb2, hc2, hl2⟩
  have x2 : x ≤ 255 := by omega
  have HBC : Hid (w.heap.size ≠ C) := by have := HK.out.lt; show _ ≠ _; omega
  have HCB : Hid (C < w.heap.size) := HK.out.lt
  have HR2 := Lib.hid (HRa.out.besides hb2 HBC.out)
  have HB2 := Lib.hid (((Besides.refl C w).alloc _).trans hb2)
  have HC2 := Lib.hid hc2
  have HL2 : Hid (leftIn w2 C ≤ leftIn w C) := by
    have e := leftIn_below ((Below.refl w.heap.size w).alloc (Nat.le_refl _) (.cells cells0 5)) HCB.out
    show _ ≤ _
    rw [e] at hl2
    omega
  clear hb2 hc2 x1 hmk hl2
  have hwx : IntKind.u8.wrap x = x := IntWalk.u8_in _ ⟨x0, x2⟩
  have HX : Hid (0 ≤ x ∧ x ≤ 255) := ⟨x0, x2⟩
  go_wp2_with fail
  go_loopw [5] (fun i wr => ∃ (k : Nat) (l : List UInt8), k ≤ 256 ∧ i = .int .i64 k ∧ l.length = 256 ∧ RowIn wr w.heap.size l ∧ Besides C w wr ∧ CodesOk wr C ∧ leftIn wr C ≤ leftIn w C) (fun i _ => 256 - (intOf i).toNat)
  case atStart => exact ⟨0, L0, by omega, rfl, HL0.out, HR2.out, HB2.out, HC2.out, HL2.out⟩
  case round =>
    obtain ⟨k, l, hk, rfl, hl, hr, hb, hc, hlf⟩ := hrel
    have HL := Lib.hid hl
    have HR := Lib.hid hr
    have HB := Lib.hid hb
    have HC := Lib.hid hc
    have HLf := Lib.hid hlf
    clear hl hr hb hc hlf
    by_cases hlt : k < 256
    · have hki : (k : Int) < 256 := by omega
      have c0 := HR.out.cell k (by rw [HL.out]; exact hlt)
      have f0 := HR.out.frozen k
      generalize l[k]'(by rw [HL.out]; exact hlt) = old at c0
      have hkw : IntKind.i64.wrap ((k : Int) + 1) = (k : Int) + 1 := IntWalk.i64_in _ (by omega)
      go_wp2_with fail
      go_roundw
      case rel => exact ⟨k + 1, l.set k (UInt8.ofNat x.toNat), by omega, rfl, by rw [List.length_set]; exact HL.out, HR.out.set k x HX.out.1 HX.out.2, HB.out.then_below ((Below.refl _ _).setCell (p := ⟨w.heap.size, k, none⟩) (Nat.le_refl _) _), HC.out.below ((Below.refl w.heap.size wr).setCell (p := ⟨w.heap.size, k, none⟩) (Nat.le_refl _) _) HCB.out, by rw [leftIn_below ((Below.refl w.heap.size wr).setCell (p := ⟨w.heap.size, k, none⟩) (Nat.le_refl _) _) HCB.out]; exact HLf.out⟩
      case measure => simp [intOf]; omega
    · have hki : ¬ (k : Int) < 256 := by omega
      go_wp2_with fail
      refine (left_small C 256 _ HC.out (by omega) (by omega)).mono ?_
      rintro e w3 ⟨j, rfl, j0, j1, hb3, hc3, hl3⟩
      obtain ⟨j, rfl⟩ := Int.eq_ofNat_of_zero_le j0
      have hj : j < 256 := by omega
      have HR3 := Lib.hid (HR.out.besides hb3 HBC.out)
      have HB3 := Lib.hid (HB.out.trans hb3)
      have HC3 := Lib.hid hc3
      have HL3 : Hid (leftIn w3 C ≤ leftIn w C) := by have := HLf.out; show _ ≤ _; omega
      clear hl3 hb3 hc3 j0 j1
      go_wp2_with fail
      refine (left_small C 256 _ HC3.out (by omega) (by omega)).mono ?_
      rintro e w4 ⟨y, rfl, y0, y1, hb4, hc4, hl4⟩
      have y2 : y ≤ 255 := by omega
      have HY : Hid (0 ≤ y ∧ y ≤ 255) := ⟨y0, y2⟩
      have hwy : IntKind.u8.wrap y = y := IntWalk.u8_in _ ⟨y0, y2⟩
      have hji : (j : Int) < 256 := by omega
      have HR4 := Lib.hid (HR3.out.besides hb4 HBC.out)
      have HB4 := Lib.hid (HB3.out.trans hb4)
      have HC4 := Lib.hid hc4
      have c0 := HR4.out.cell j (by rw [HL.out]; exact hj)
      have f0 := HR4.out.frozen j
      generalize l[j]'(by rw [HL.out]; exact hj) = old at c0
      have hcv := (HR4.out.set j y y0 y2).conv 256 256 (by rw [List.length_set]; exact HL.out.symm)
      have HL4 : Hid (leftIn w4 C ≤ leftIn w C) := by have := HL3.out; show _ ≤ _; omega
      clear hl4 hb4 hc4 y1
      go_wp2_with fail
      go_ret
      exact ⟨_, rfl, by show (List.toArray _).size = 256; rw [List.size_toArray, List.length_set]; exact HL.out, HB4.out.then_below ((Below.refl _ _).setCell (p := ⟨w.heap.size, j, none⟩) (Nat.le_refl _) _), HC4.out.below ((Below.refl w.heap.size w4).setCell (p := ⟨w.heap.size, j, none⟩) (Nat.le_refl _) _) HCB.out, by rw [leftIn_below ((Below.refl w.heap.size w4).setCell (p := ⟨w.heap.size, j, none⟩) (Nat.le_refl _) _) HCB.out]; exact HL4.out⟩
theorem left_any (C : Nat) (w : World) (h : CodesOk w C) :
    Calls Try.prog 33 #[.pointer (some ⟨C, 0, none⟩)] w fun e w' => ∃ (q : Nat) (v : Int), e = .returned (.int .i64 v) ∧ (0 < v → 0 < leftIn w C) ∧ w' = w.drewN q := by
  obtain ⟨a, len, cap, i, h⟩ := h
  have HL : Hid (leftIn w C = ((len : Int) - i).toNat) := h.left
  obtain ⟨h0, h1, h2, h3, h4, h5, h6, h7⟩ := h
  have hw : IntKind.i64.wrap ((len : Int) - i) = (len : Int) - i := IntWalk.i64_in _ (by omega)
  clear h0 h3 h4 h5 h6 h7
  go_enter Try.func33, Try.ntmps33
  go_wp2
  go_quiet (fail)
  go_wp2
  go_ret
  exact ⟨_, _, rfl, fun hv => by have := HL.out; omega, rfl⟩
set_option maxHeartbeats 400000 in
theorem new_left (m : Nat) (hm : m ≤ 1000) (a : Option Addr) (len cap : Nat) (zs : List Int) (w : World) (h : IsRow .u8 w a len cap zs) :
    Calls Try.prog 11 #[.slice a len cap, .int .i64 m] w fun e w' => e = .returned (.pointer (some ⟨w.heap.size, 0, none⟩)) ∧ Below w.heap.size w w' ∧ CodesOk w' w.heap.size ∧ CodesRow w' w.heap.size a len ∧ leftIn w' w.heap.size ≤ m := by
  by_cases hl : m < len
  · have HK := Lib.hid (codes_of_row h m cap (by omega) (by omega))
    rcases h with ⟨_, h, _, _⟩ | ⟨x, rfl, hlc, hcm, hz, _, _⟩
    · omega
    · have hcap : (m : Int) ≤ (cap : Int) := by omega
      have hi : (m : Int) < (len : Int) := by omega
      have hm0 : (0 : Int) ≤ (m : Int) := by omega
      have HL : Hid (m < len) := hl
      clear hz
      go_enter Try.func11, Try.ntmps11
      go_wp2
      go_ret
      exact ⟨rfl, (Below.refl _ _).alloc (Nat.le_refl _) _, HK.out, ⟨_, _, by rw [World.cell?_alloc_new]; rfl, fun _ => by have := HL.out; omega⟩, by unfold leftIn; rw [World.cell?_alloc_new, World.cell?_alloc_new]; show ((m : Int) - 0).toNat ≤ m; omega⟩
  · have hle : len ≤ 4611686018427387904 := by omega
    have HK := Lib.hid (codes_of_row h len cap (Nat.le_refl _) hle)
    have hi : ¬ ((m : Int) < (len : Int)) := by omega
    clear h
    go_enter Try.func11, Try.ntmps11
    go_wp2
    go_ret
    have hlm : len ≤ m := by omega
    refine ⟨rfl, (Below.refl _ _).alloc (Nat.le_refl _) _, HK.out, ⟨len, cap, ?_, fun h0 => h0⟩, by unfold leftIn; rw [World.cell?_alloc_new, World.cell?_alloc_new]; show ((len : Int) - 0).toNat ≤ m; omega⟩
    rw [World.cell?_alloc_new]
    rfl
theorem new_hpl (m : Nat) (hm : m ≤ 1000) {w0 w : World} {L : List Th} {x : Option Addr} {len cap : Nat} {zs : List Int} (h : Hp w0 L w) (hr : IsRow .u8 w0 x len cap zs) :
    Calls Try.prog 11 #[.slice x len cap, .int .i64 m] w fun e w' => e = .returned (.pointer (some ⟨w.heap.size, 0, none⟩)) ∧ Hp w0 (L ++ [.cd w.heap.size]) w' ∧ leftIn w' w.heap.size ≤ m :=
  (new_left m hm x len cap zs w (row_below hr h.old)).mono fun _ _ ⟨h1, h2, h3, ⟨l, c, h4, h5⟩, h6⟩ => ⟨h1, h.begin h2 h3 ⟨x, l, c, h4, fun hl => row_lo hr (h5 hl)⟩, h6⟩
end Go.Proofs.Ythcjkbhkidijoaa
/- the choices of the drawing package: Int -/
namespace Go.Proofs.Ythcjkbhkidijoaa
open Go.RowKit
set_option maxRecDepth 20000

/-- what Int leaves: some number -/
def IntPost (C : Nat) (w : World) (e : Ending) (w' : World) : Prop :=
  ∃ x : Int, e = .returned (.int .i64 x) ∧ -9223372036854775808 ≤ x ∧ x ≤ 9223372036854775807 ∧ Besides C w w' ∧ CodesOk w' C
/-- the numbers about limits -/
def limL : List Int := [9223372036854775807, -9223372036854775808, 1099511627776, 1099511627777, 1073741824, 1073741825, 64, 63, 16, 15, 256, 255, 4294967296, 65536, 256, 255]
def limV : Array Value := (limL.map (Value.int .i64)).toArray
theorem limL_in : ∀ i : Fin 16, -9223372036854775808 ≤ limL.getD i.val 0 ∧ limL.getD i.val 0 ≤ 9223372036854775807 := by decide
theorem limV_get (k : Nat) (h : k < 16) : limV[k]? = some (.int .i64 (limL.getD k 0)) := by
  unfold limV
  rw [List.getElem?_toArray, List.getElem?_map, List.getD_eq_getElem?_getD, List.getElem?_eq_getElem (by simpa [limL] using h)]
  rfl

set_option maxHeartbeats 1000000 in
theorem int_any (C : Nat) (w : World) (h : CodesOk w C) :
    Calls Try.prog 37 #[.pointer (some ⟨C, 0, none⟩)] w (IntPost C w) := by
  have HK := Lib.hid h
  clear h
  go_enter Try.func37, Try.ntmps37
  go_wp2_with fail
  refine (next_any C 10 _ HK.out (by omega)).mono ?_
  rintro e w2 ⟨m, rfl, m0, m1, hb2, hc2⟩
  have HB2 := Lib.hid hb2
  have HC2 := Lib.hid hc2
  clear m1 hb2 hc2
  by_cases h0 : m = 0
  · have h0b : (m == 0) = true := by rw [h0]; rfl
    clear h0
    go_wp2_with fail
    refine (next_any C 3 _ HC2.out (by omega)).mono ?_
    rintro e w3 ⟨x, rfl, x0, x1, hb3, hc3⟩
    have HB3 := Lib.hid (HB2.out.trans hb3)
    have HC3 := Lib.hid hc3
    have x2 : x ≤ 2 := by omega
    clear x1 hb3 hc3
    go_wp2_with fail
    go_ret
    exact ⟨_, rfl, by omega, by omega, HB3.out, HC3.out⟩
  have h0b : (m == 0) = false := by rw [beq_eq_false_iff_ne]; exact h0
  clear h0
  by_cases h1 : m = 1
  · have h1b : (m == 1) = true := by rw [h1]; rfl
    clear h1
    go_wp2_with fail
    have hlt := HC2.out.lt
    refine (next_any C 16 _ (HC2.out.below ((Below.refl _ _).alloc (Nat.le_refl _) _) hlt) (by omega)).mono ?_
    rintro e w3 ⟨x, rfl, x0, x1, hb3, hc3⟩
    obtain ⟨k, rfl⟩ := Int.eq_ofNat_of_zero_le x0
    have hk : k < 16 := by omega
    clear x1 x0
    have hcell : w3.cell? ⟨w2.heap.size, k, none⟩ = some (.int .i64 (limL.getD k 0)) := by
      rw [hb3.cell (p := ⟨w2.heap.size, k, none⟩) (by simp) (by show w2.heap.size ≠ C; omega), World.cell?_alloc_new]
      exact limV_get k hk
    have hin := limL_in ⟨k, hk⟩
    have HIN := Lib.hid hin
    clear hin
    generalize limL.getD k 0 = y at *
    have HB3 := Lib.hid ((HB2.out.alloc _).trans hb3)
    have HC3 := Lib.hid hc3
    clear hb3 hc3 hlt
    generalize w2.heap.size = b2 at *
    go_wp2_with fail
    go_ret
    exact ⟨y, rfl, HIN.out.1, HIN.out.2, HB3.out, HC3.out⟩
  · have h1b : (m == 1) = false := by rw [beq_eq_false_iff_ne]; exact h1
    clear h1
    go_wp2_with fail
    refine (next_any C 20 _ HC2.out (by omega)).mono ?_
    rintro e w3 ⟨x, rfl, x0, x1, hb3, hc3⟩
    have HB3 := Lib.hid (HB2.out.trans hb3)
    have HC3 := Lib.hid hc3
    have x2 : x ≤ 19 := by omega
    clear x1 hb3 hc3
    go_wp2_with fail
    go_ret
    exact ⟨_, rfl, by omega, by omega, HB3.out, HC3.out⟩
end Go.Proofs.Ythcjkbhkidijoaa
/- the choices of the drawing package, with how many are left: Int, Fault -/
namespace Go.Proofs.Ythcjkbhkidijoaa
open Go.RowKit
set_option maxRecDepth 20000
set_option linter.unusedSimpArgs false
set_option linter.unusedVariables false

/-- choices, of which at most so many are left -/
def CodesM (m : Nat) (w : World) (C : Nat) : Prop := CodesOk w C ∧ leftIn w C ≤ m
theorem CodesM.lt {m : Nat} {w : World} {C : Nat} (h : CodesM m w C) : C < w.heap.size := h.1.lt
theorem CodesM.below {m : Nat} {w w' : World} {C B : Nat} (h : CodesM m w C) (hb : Below B w w') (hC : C < B) : CodesM m w' C := ⟨h.1.below hb hC, by rw [leftIn_below hb hC]; exact h.2⟩
def NextM (m C : Nat) (n : Int) (w : World) (e : Ending) (w' : World) : Prop :=
  ∃ x : Int, e = .returned (.int .i64 x) ∧ 0 ≤ x ∧ (x < n ∨ x = 0) ∧ Besides C w w' ∧ CodesM m w' C
theorem next_m (m C : Nat) (n : Int) (w : World) (h : CodesM m w C) (hn : n ≤ 256) :
    Calls Try.prog 17 #[.pointer (some ⟨C, 0, none⟩), .int .i64 n] w (NextM m C n w) := by
  have hm := h.2
  by_cases h1 : 1 ≤ n
  · exact (left_small C n w h.1 h1 hn).mono fun e w' ⟨x, h1, h2, h3, h4, h5, h6⟩ => ⟨x, h1, h2, h3, h4, h5, by omega⟩
  · obtain ⟨a, len, cap, i, hc⟩ := h.1
    exact (left_neg C a len cap i n w hc (by omega)).mono fun e w' ⟨x, h1, h2, h3, h4, h5, h6⟩ => ⟨x, h1, h2, h3, h4, h5, by omega⟩
def IntM (m C : Nat) (w : World) (e : Ending) (w' : World) : Prop :=
  ∃ x : Int, e = .returned (.int .i64 x) ∧ -9223372036854775808 ≤ x ∧ x ≤ 9223372036854775807 ∧ Besides C w w' ∧ CodesM m w' C
set_option maxHeartbeats 1000000 in
theorem int_m (M0 C : Nat) (w : World) (h : CodesM M0 w C) :
    Calls Try.prog 37 #[.pointer (some ⟨C, 0, none⟩)] w (IntM M0 C w) := by
  have HK := Lib.hid h
  clear h
  go_enter Try.func37, Try.ntmps37
  go_wp2_with fail
  refine (next_m M0 C 10 _ HK.out (by omega)).mono ?_
  rintro e w2 ⟨m, rfl, m0, m1, hb2, hc2⟩
  have HB2 := Lib.hid hb2
  have HC2 := Lib.hid hc2
  clear m1 hb2 hc2
  by_cases h0 : m = 0
  · have h0b : (m == 0) = true := by rw [h0]; rfl
    clear h0
    go_wp2_with fail
    refine (next_m M0 C 3 _ HC2.out (by omega)).mono ?_
    rintro e w3 ⟨x, rfl, x0, x1, hb3, hc3⟩
    have HB3 := Lib.hid (HB2.out.trans hb3)
    have HC3 := Lib.hid hc3
    have x2 : x ≤ 2 := by omega
    clear x1 hb3 hc3
    go_wp2_with fail
    go_ret
    exact ⟨_, rfl, by omega, by omega, HB3.out, HC3.out⟩
  have h0b : (m == 0) = false := by rw [beq_eq_false_iff_ne]; exact h0
  clear h0
  by_cases h1 : m = 1
  · have h1b : (m == 1) = true := by rw [h1]; rfl
    clear h1
    go_wp2_with fail
    have hlt := HC2.out.lt
    refine (next_m M0 C 16 _ (HC2.out.below ((Below.refl _ _).alloc (Nat.le_refl _) _) hlt) (by omega)).mono ?_
    rintro e w3 ⟨x, rfl, x0, x1, hb3, hc3⟩
    obtain ⟨k, rfl⟩ := Int.eq_ofNat_of_zero_le x0
    have hk : k < 16 := by omega
    clear x1 x0
    have hcell : w3.cell? ⟨w2.heap.size, k, none⟩ = some (.int .i64 (limL.getD k 0)) := by
      rw [hb3.cell (p := ⟨w2.heap.size, k, none⟩) (by simp) (by show w2.heap.size ≠ C; omega), World.cell?_alloc_new]
      exact limV_get k hk
    have hin := limL_in ⟨k, hk⟩
    have HIN := Lib.hid hin
    clear hin
    generalize limL.getD k 0 = y at *
    have HB3 := Lib.hid ((HB2.out.alloc _).trans hb3)
    have HC3 := Lib.hid hc3
    clear hb3 hc3 hlt
    generalize w2.heap.size = b2 at *
    go_wp2_with fail
    go_ret
    exact ⟨y, rfl, HIN.out.1, HIN.out.2, HB3.out, HC3.out⟩
  · have h1b : (m == 1) = false := by rw [beq_eq_false_iff_ne]; exact h1
    clear h1
    go_wp2_with fail
    refine (next_m M0 C 20 _ HC2.out (by omega)).mono ?_
    rintro e w3 ⟨x, rfl, x0, x1, hb3, hc3⟩
    have HB3 := Lib.hid (HB2.out.trans hb3)
    have HC3 := Lib.hid hc3
    have x2 : x ≤ 19 := by omega
    clear x1 hb3 hc3
    go_wp2_with fail
    go_ret
    exact ⟨_, rfl, by omega, by omega, HB3.out, HC3.out⟩
structure DrM (m : Nat) (w : World) (C : Nat) (L : List Ob) (W : World) : Prop where
  dr : Dr w C L W
  left : leftIn W C ≤ m
theorem DrM.start {m : Nat} {w : World} {C : Nat} (h : CodesM m w C) : DrM m w C [] w := ⟨Dr.start h.1, h.2⟩
theorem DrM.codes {m : Nat} {w W : World} {C : Nat} {L : List Ob} (h : DrM m w C L W) : CodesM m W C := ⟨h.dr.codes, h.left⟩
theorem DrM.draws {m : Nat} {w W W' : World} {C : Nat} {L : List Ob} (h : DrM m w C L W) (hb : Besides C W W') (hc : CodesM m W' C) : DrM m w C L W' := ⟨h.dr.draws hb hc.1, hc.2⟩
theorem DrM.put {m : Nat} {w W : World} {C : Nat} {L : List Ob} (h : DrM m w C L W) (t : TypeId) (cs : List Value) : DrM m w C (L ++ [⟨W.heap.size, t, cs⟩]) (W.alloc (.cells cs.toArray t)) :=
  ⟨h.dr.put t cs, by rw [leftIn_below ((Below.refl _ _).alloc (Nat.le_refl _) _) h.dr.codes.lt]; exact h.left⟩
theorem DrM.ne {m : Nat} {w W : World} {C : Nat} {L : List Ob} (h : DrM m w C L W) (i : Nat) {o : Ob} (e : L[i]? = some o) : C ≠ o.b := by
  have h1 := h.dr.new _ (List.mem_of_getElem? e)
  have h2 := h.dr.lt
  omega
theorem DrM.set {m : Nat} {w W : World} {C : Nat} {L : List Ob} (h : DrM m w C L W) (i : Nat) {o : Ob} (e : L[i]? = some o) (k : Nat) (v : Value) : DrM m w C (L.set i ⟨o.b, o.t, o.cs.set k v⟩) (W.setCell ⟨o.b, k, none⟩ v) :=
  ⟨h.dr.set i e k v, by rw [leftIn_of (Below.heap_setCell _ _ _ _ (h.ne i e))]; exact h.left⟩
theorem DrM.row {m : Nat} {w W : World} {C : Nat} {L : List Ob} (h : DrM m w C L W) (i : Nat) {o : Ob} (e : L[i]? = some o) (cs : List Value) : DrM m w C (L.set i ⟨o.b, o.t, cs⟩) (W.setRow o.b cs.toArray) :=
  ⟨h.dr.row i e cs, by rw [leftIn_of (setRow_other _ _ _ _ (h.ne i e))]; exact h.left⟩
theorem DrM.get {m : Nat} {w W : World} {C : Nat} {L : List Ob} (h : DrM m w C L W) (i : Nat) {b : Nat} {t : TypeId} {cs : List Value} (e : L[i]? = some ⟨b, t, cs⟩) : W.heap[b]? = some (.cells cs.toArray t (0, 0)) := h.dr.get i e
theorem DrM.cell {m : Nat} {w W : World} {C : Nat} {L : List Ob} (h : DrM m w C L W) (i : Nat) {b : Nat} {t : TypeId} {cs : List Value} (e : L[i]? = some ⟨b, t, cs⟩) (k : Nat) {v : Value} (hv : cs[k]? = some v) : W.cell? ⟨b, k, none⟩ = some v := by
  rw [cell_of_row W b k _ _ _ (h.get i e), List.getElem?_toArray]; exact hv
theorem DrM.frozen {m : Nat} {w W : World} {C : Nat} {L : List Ob} (h : DrM m w C L W) (i : Nat) {b : Nat} {t : TypeId} {cs : List Value} (e : L[i]? = some ⟨b, t, cs⟩) (k : Nat) : W.frozen? ⟨b, k, none⟩ = false := frozen_of_row _ _ _ _ _ (h.get i e)
theorem wfm_of {n : Int} (h : -9223372036854775808 ≤ n ∧ n ≤ 9223372036854775807) : (Lit.int .i64 n).wf = true := by
  simp [Lit.wf, IntKind.min, IntKind.max, IntKind.bits, IntKind.signed]; omega
theorem wfu_of {n : Int} (h : 0 ≤ n ∧ n ≤ 255) : (Lit.int .u8 n).wf = true := by
  have e1 : IntKind.u8.min = 0 := by decide
  have e2 : IntKind.u8.max = 255 := by decide
  simp [Lit.wf, e1, e2]
  omega
theorem GoodFlt.kd {f : Flt} (h : GoodFlt f) {x : Int} (hx : -9223372036854775808 ≤ x ∧ x ≤ 9223372036854775807) : GoodFlt ⟨x, f.at_, f.page, f.target, f.byte, f.mask⟩ := ⟨wfm_of hx, h.at_, h.page, h.target, h.byte, h.mask⟩
theorem GoodFlt.at' {f : Flt} (h : GoodFlt f) {x : Int} (hx : -9223372036854775808 ≤ x ∧ x ≤ 9223372036854775807) : GoodFlt ⟨f.kind, x, f.page, f.target, f.byte, f.mask⟩ := ⟨h.kind, wfm_of hx, h.page, h.target, h.byte, h.mask⟩
theorem GoodFlt.pg {f : Flt} (h : GoodFlt f) {x : Int} (hx : -9223372036854775808 ≤ x ∧ x ≤ 9223372036854775807) : GoodFlt ⟨f.kind, f.at_, x, f.target, f.byte, f.mask⟩ := ⟨h.kind, h.at_, wfm_of hx, h.target, h.byte, h.mask⟩
theorem GoodFlt.tg {f : Flt} (h : GoodFlt f) {x : Int} (hx : -9223372036854775808 ≤ x ∧ x ≤ 9223372036854775807) : GoodFlt ⟨f.kind, f.at_, f.page, x, f.byte, f.mask⟩ := ⟨h.kind, h.at_, h.page, wfm_of hx, h.byte, h.mask⟩
theorem GoodFlt.by' {f : Flt} (h : GoodFlt f) {x : Int} (hx : -9223372036854775808 ≤ x ∧ x ≤ 9223372036854775807) : GoodFlt ⟨f.kind, f.at_, f.page, f.target, x, f.mask⟩ := ⟨h.kind, h.at_, h.page, h.target, wfm_of hx, h.mask⟩
theorem GoodFlt.mk' {f : Flt} (h : GoodFlt f) {x : Int} (hx : 0 ≤ x ∧ x ≤ 255) : GoodFlt ⟨f.kind, f.at_, f.page, f.target, f.byte, x⟩ := ⟨h.kind, h.at_, h.page, h.target, h.byte, wfu_of hx⟩
theorem goodFlt_of {kd at0 : Int} (hk : -9223372036854775808 ≤ kd ∧ kd ≤ 9223372036854775807) (ha : -9223372036854775808 ≤ at0 ∧ at0 ≤ 9223372036854775807) : GoodFlt ⟨kd, at0, 0, 0, 0, 0⟩ := by
  have z : (Lit.int .i64 0).wf = true ∧ (Lit.int .u8 0).wf = true := by decide
  exact ⟨wfm_of hk, wfm_of ha, z.1, z.1, z.1, z.2⟩
theorem build_fm (a b : Int) (W : World) : Sem.run Try.prog (Instr.build 29 #[(0, .int .i64 a), (1, .int .i64 b)]) W = .ok (.agg (fltCells ⟨a, b, 0, 0, 0, 0⟩).toArray) W := by kernel_rfl
theorem wrap_rng (x : Int) : -9223372036854775808 ≤ IntKind.i64.wrap x ∧ IntKind.i64.wrap x ≤ 9223372036854775807 := by
  rw [IntKind.wrap_i64]
  omega
set_option maxHeartbeats 8000000 in
theorem fault_m (m C : Nat) (n wr : Int) (w : World) (h : CodesM m w C) (hn : n ≤ 256) :
    Calls Try.prog 24 #[.pointer (some ⟨C, 0, none⟩), .int .i64 n, .int .i64 wr] w fun e w' => ∃ f : Flt, GoodFlt f ∧ e = .returned (.agg (fltCells f).toArray) ∧ Besides C w w' ∧ CodesM m w' C := by
  have HN := Lib.hid hn
  obtain ⟨fs2, huf⟩ := under_flt
  have HUF := Lib.hid huf
  have h1 := (DrM.start h).put 29 (fltCells fltNil)
  have HD0 : Hid (DrM m w C [⟨w.heap.size, 29, fltCells fltNil⟩] (w.alloc (.cells #[.int .i64 0, .int .i64 0, .int .i64 0, .int .i64 0, .int .i64 0, .int .u8 0] 29))) := h1
  clear h h1 huf hn
  go_enter Try.func24, Try.ntmps24
  go_wp2_with fail
  refine (next_m m C 6 _ HD0.out.codes (by omega)).mono ?_
  rintro e w2 ⟨a, rfl, a0, a1, hb, hc⟩
  have HD1 := Lib.hid (HD0.out.draws hb hc)
  have ha5 : a ≤ 5 := by omega
  have hwa : IntKind.i64.wrap (1 + a) = 1 + a := IntWalk.i64_in _ (by omega)
  clear HD0 hb hc a1
  generalize w.heap.size = b6 at *
  go_wp2_with fail
  refine (next_m m C 6 _ HD1.out.codes (by omega)).mono ?_
  rintro e w3 ⟨b, rfl, b0, b1, hb, hc⟩
  have HD2 := Lib.hid (HD1.out.draws hb hc)
  clear HD1 hb hc b0 b1
  go_upto_region 2 with (fail)
  have HD3 : Hid (DrM m w C [⟨b6, 29, fltCells fltNil⟩, ⟨w3.heap.size, 29, fltCells ⟨1 + a, wrap64 (wrap64 (wr + 1) + b), 0, 0, 0, 0⟩⟩] (w3.alloc (.cells #[.int .i64 (1 + a), .int .i64 (wrap64 (wrap64 (wr + 1) + b)), .int .i64 0, .int .i64 0, .int .i64 0, .int .u8 0] 29))) := HD2.out.put 29 (fltCells ⟨1 + a, wrap64 (wrap64 (wr + 1) + b), 0, 0, 0, 0⟩)
  have HAt : Hid (-9223372036854775808 ≤ wrap64 (wrap64 (wr + 1) + b) ∧ wrap64 (wrap64 (wr + 1) + b) ≤ 9223372036854775807) := Lib.hid (by rw [← IntWalk.i64_left]; exact wrap_rng _)
  clear HD2 hwa
  generalize wrap64 (wrap64 (wr + 1) + b) = at0 at *
  generalize w3.alloc (.cells #[.int .i64 (1 + a), .int .i64 at0, .int .i64 0, .int .i64 0, .int .i64 0, .int .u8 0] 29) = w4 at *
  generalize w3.heap.size = b7 at *
  obtain ⟨kk, hkk⟩ : ∃ kk, 1 + a = kk := ⟨_, rfl⟩
  have HK : Hid (1 ≤ kk ∧ kk ≤ 6) := Lib.hid (by omega)
  rw [hkk] at HD3
  clear hkk a0 ha5
  have c0 := HD3.out.cell 1 rfl 0 rfl
  go_upto_block 0 with fail
  clear c0
  go_cut [] (fun wx => ∃ f : Flt, GoodFlt f ∧ DrM m w C [⟨b6, 29, fltCells fltNil⟩, ⟨b7, 29, fltCells f⟩] wx)
  case first =>
    have hn6 := HN.out
    have HG0 : Hid (GoodFlt ⟨kk, at0, 0, 0, 0, 0⟩) := Lib.hid (goodFlt_of (by have := HK.out; omega) HAt.out)
    have hk6 : kk = 1 ∨ kk = 2 ∨ kk = 3 ∨ kk = 4 ∨ kk = 5 ∨ kk = 6 := by have := HK.out; omega
    clear HK HAt
    rcases hk6 with rfl | rfl | rfl | rfl | rfl | rfl
    · go_wp2_with fail
      go_meet
      exact ⟨_, HG0.out, HD3.out⟩
    · go_wp2_with fail
      refine (next_m m C n _ HD3.out.codes HN.out).mono ?_
      rintro e wa ⟨x, rfl, x0, x1, hb, hc⟩
      have HA := Lib.hid (HD3.out.draws hb hc)
      clear hb hc
      have c3 := HA.out.cell 1 rfl 3 rfl
      have g3 := HA.out.frozen 1 rfl 3
      go_wp2_with fail
      go_meet
      exact ⟨_, HG0.out.tg (x := x) (by omega), HA.out.set 1 rfl 3 (.int .i64 x)⟩
    · go_wp2_with fail
      refine (next_m m C 256 _ HD3.out.codes (by omega)).mono ?_
      rintro e wa ⟨x, rfl, x0, x1, hb, hc⟩
      have HA := Lib.hid (HD3.out.draws hb hc)
      clear hb hc
      have c4 := HA.out.cell 1 rfl 4 rfl
      have g4 := HA.out.frozen 1 rfl 4
      go_wp2_with fail
      go_meet
      exact ⟨_, HG0.out.by' (x := x) (by omega), HA.out.set 1 rfl 4 (.int .i64 x)⟩
    · go_wp2_with fail
      refine (next_m m C n _ HD3.out.codes HN.out).mono ?_
      rintro e wa ⟨x, rfl, x0, x1, hb, hc⟩
      have HA := Lib.hid (HD3.out.draws hb hc)
      clear hb hc
      go_wp2_with fail
      refine (next_m m C 256 _ HA.out.codes (by omega)).mono ?_
      rintro e wb ⟨y, rfl, y0, y1, hb, hc⟩
      have HB := Lib.hid (HA.out.draws hb hc)
      clear hb hc
      go_wp2_with fail
      refine (next_m m C 255 _ HB.out.codes (by omega)).mono ?_
      rintro e wd ⟨z, rfl, z0, z1, hb, hc⟩
      have HD := Lib.hid (HB.out.draws hb hc)
      clear hb hc
      have hz1 : IntKind.i64.wrap (1 + z) = 1 + z := IntWalk.i64_in _ (by omega)
      have hz2 : IntKind.u8.wrap (1 + z) = 1 + z := IntWalk.u8_in _ (by omega)
      have c2 := HD.out.cell 1 rfl 2 rfl
      have g2 := HD.out.frozen 1 rfl 2
      have c4 := HD.out.cell 1 rfl 4 rfl
      have g4 := HD.out.frozen 1 rfl 4
      have c5 := HD.out.cell 1 rfl 5 rfl
      have g5 := HD.out.frozen 1 rfl 5
      go_wp2_with fail
      go_meet
      exact ⟨_, ((HG0.out.pg (x := x) (by omega)).by' (x := y) (by omega)).mk' (x := 1 + z) (by omega), ((HD.out.set 1 rfl 2 (.int .i64 x)).set 1 rfl 4 (.int .i64 y)).set 1 rfl 5 (.int .u8 (1 + z))⟩
    · go_wp2_with fail
      refine (next_m m C n _ HD3.out.codes HN.out).mono ?_
      rintro e wa ⟨x, rfl, x0, x1, hb, hc⟩
      have HA := Lib.hid (HD3.out.draws hb hc)
      clear hb hc
      have c2 := HA.out.cell 1 rfl 2 rfl
      have g2 := HA.out.frozen 1 rfl 2
      go_wp2_with fail
      go_meet
      exact ⟨_, HG0.out.pg (x := x) (by omega), HA.out.set 1 rfl 2 (.int .i64 x)⟩
    · go_wp2_with fail
      go_meet
      exact ⟨_, HG0.out, HD3.out⟩
  case rest =>
    obtain ⟨f, hg, hd⟩ := hcut
    have HG := Lib.hid hg
    have HD4 := Lib.hid hd
    clear hg hd HD3 HAt HK
    generalize wc = w5 at *
    go_wp2_with fail
    refine (next_m m C 16 _ HD4.out.codes (by omega)).mono ?_
    rintro e w6 ⟨v, rfl, v0, v1, hb, hc⟩
    have HD5 := Lib.hid (HD4.out.draws hb hc)
    clear hb hc
    have hv : v = 12 ∨ v = 13 ∨ v = 14 ∨ v = 15 ∨ (0 ≤ v ∧ v < 12) := by omega
    clear v0 v1 HD4
    rcases hv with rfl | rfl | rfl | rfl | ⟨hv0, hv1⟩
    · go_wp2_with fail
      refine (int_m m C _ HD5.out.codes).mono ?_
      rintro e w7 ⟨x, rfl, x0, x1, hb, hc⟩
      have HA := Lib.hid (HD5.out.draws hb hc)
      clear hb hc
      have c1 := HA.out.cell 1 rfl 1 rfl
      have g1 := HA.out.frozen 1 rfl 1
      go_upto_region 20 with (fail)
      have HZ : Hid (DrM m w C [⟨b6, 29, fltCells fltNil⟩, ⟨b7, 29, fltCells ⟨f.kind, x, f.page, f.target, f.byte, f.mask⟩⟩] ((w7).setCell ⟨b7, 1, none⟩ (.int .i64 x))) := HA.out.set 1 rfl 1 (.int .i64 x)
      have HZg : Hid (GoodFlt ⟨f.kind, x, f.page, f.target, f.byte, f.mask⟩) := Lib.hid (HG.out.at' ⟨x0, x1⟩)
      clear HG HD5
      generalize (w7).setCell ⟨b7, 1, none⟩ (.int .i64 x) = wz at *
      go_wp2_with (first | ((with_reducible refine wpList_load_ob 29 (.tmp 7) b7 (fltCells ⟨f.kind, x, f.page, f.target, f.byte, f.mask⟩) 29 HUF.out ?_ ?_ ?_ ?_ ?_); (exact rfl); (exact HZ.out.get 1 rfl); (exact rfl); (exact info_flt); simp only [Act.put, List.setIfInBounds_toArray, List.set_cons_zero, List.set_cons_succ]) | ((with_reducible refine wpList_store_ob 29 (.tmp 6) b6 (fltCells ⟨f.kind, x, f.page, f.target, f.byte, f.mask⟩) (fltCells fltNil) 29 ?_ ?_ ?_ ?_ ?_ ?_ ?_); (exact rfl); (exact rfl); (exact HZ.out.get 0 rfl); (exact info_flt); (exact rfl); (exact (oneCell_flt _)); skip))
      have HY := Lib.hid (HZ.out.row 0 rfl (fltCells ⟨f.kind, x, f.page, f.target, f.byte, f.mask⟩))
      refine bodyPost_ret (results_ob Try.results24 _ _ b6 (fltCells ⟨f.kind, x, f.page, f.target, f.byte, f.mask⟩) 29 _ rfl (HY.out.get 0 rfl) HUF.out rfl info_flt) rfl ⟨_, HZg.out, rfl, HY.out.dr.bes, HY.out.codes⟩
    · go_wp2_with fail
      refine (int_m m C _ HD5.out.codes).mono ?_
      rintro e w7 ⟨x, rfl, x0, x1, hb, hc⟩
      have HA := Lib.hid (HD5.out.draws hb hc)
      clear hb hc
      have c2 := HA.out.cell 1 rfl 2 rfl
      have g2 := HA.out.frozen 1 rfl 2
      have c5 := HA.out.cell 1 rfl 5 rfl
      have g5 := HA.out.frozen 1 rfl 5
      go_upto_region 20 with (fail)
      have HZ : Hid (DrM m w C [⟨b6, 29, fltCells fltNil⟩, ⟨b7, 29, fltCells ⟨f.kind, f.at_, x, f.target, f.byte, 0⟩⟩] (((w7).setCell ⟨b7, 2, none⟩ (.int .i64 x)).setCell ⟨b7, 5, none⟩ (.int .u8 0))) := (HA.out.set 1 rfl 2 (.int .i64 x)).set 1 rfl 5 (.int .u8 0)
      have HZg : Hid (GoodFlt ⟨f.kind, f.at_, x, f.target, f.byte, 0⟩) := Lib.hid ((HG.out.pg ⟨x0, x1⟩).mk' (x := 0) (by decide))
      clear HG HD5
      generalize ((w7).setCell ⟨b7, 2, none⟩ (.int .i64 x)).setCell ⟨b7, 5, none⟩ (.int .u8 0) = wz at *
      go_wp2_with (first | ((with_reducible refine wpList_load_ob 29 (.tmp 7) b7 (fltCells ⟨f.kind, f.at_, x, f.target, f.byte, 0⟩) 29 HUF.out ?_ ?_ ?_ ?_ ?_); (exact rfl); (exact HZ.out.get 1 rfl); (exact rfl); (exact info_flt); simp only [Act.put, List.setIfInBounds_toArray, List.set_cons_zero, List.set_cons_succ]) | ((with_reducible refine wpList_store_ob 29 (.tmp 6) b6 (fltCells ⟨f.kind, f.at_, x, f.target, f.byte, 0⟩) (fltCells fltNil) 29 ?_ ?_ ?_ ?_ ?_ ?_ ?_); (exact rfl); (exact rfl); (exact HZ.out.get 0 rfl); (exact info_flt); (exact rfl); (exact (oneCell_flt _)); skip))
      have HY := Lib.hid (HZ.out.row 0 rfl (fltCells ⟨f.kind, f.at_, x, f.target, f.byte, 0⟩))
      refine bodyPost_ret (results_ob Try.results24 _ _ b6 (fltCells ⟨f.kind, f.at_, x, f.target, f.byte, 0⟩) 29 _ rfl (HY.out.get 0 rfl) HUF.out rfl info_flt) rfl ⟨_, HZg.out, rfl, HY.out.dr.bes, HY.out.codes⟩
    · go_wp2_with fail
      refine (int_m m C _ HD5.out.codes).mono ?_
      rintro e w7 ⟨x, rfl, x0, x1, hb, hc⟩
      have HA := Lib.hid (HD5.out.draws hb hc)
      clear hb hc
      go_wp2_with fail
      refine (int_m m C _ HA.out.codes).mono ?_
      rintro e w8 ⟨y, rfl, y0, y1, hb, hc⟩
      have HB := Lib.hid (HA.out.draws hb hc)
      clear hb hc
      have c3 := HB.out.cell 1 rfl 3 rfl
      have g3 := HB.out.frozen 1 rfl 3
      have c4 := HB.out.cell 1 rfl 4 rfl
      have g4 := HB.out.frozen 1 rfl 4
      go_upto_region 20 with (fail)
      have HZ : Hid (DrM m w C [⟨b6, 29, fltCells fltNil⟩, ⟨b7, 29, fltCells ⟨f.kind, f.at_, f.page, x, y, f.mask⟩⟩] (((w8).setCell ⟨b7, 3, none⟩ (.int .i64 x)).setCell ⟨b7, 4, none⟩ (.int .i64 y))) := (HB.out.set 1 rfl 3 (.int .i64 x)).set 1 rfl 4 (.int .i64 y)
      have HZg : Hid (GoodFlt ⟨f.kind, f.at_, f.page, x, y, f.mask⟩) := Lib.hid ((HG.out.tg ⟨x0, x1⟩).by' ⟨y0, y1⟩)
      clear HG HD5
      generalize ((w8).setCell ⟨b7, 3, none⟩ (.int .i64 x)).setCell ⟨b7, 4, none⟩ (.int .i64 y) = wz at *
      go_wp2_with (first | ((with_reducible refine wpList_load_ob 29 (.tmp 7) b7 (fltCells ⟨f.kind, f.at_, f.page, x, y, f.mask⟩) 29 HUF.out ?_ ?_ ?_ ?_ ?_); (exact rfl); (exact HZ.out.get 1 rfl); (exact rfl); (exact info_flt); simp only [Act.put, List.setIfInBounds_toArray, List.set_cons_zero, List.set_cons_succ]) | ((with_reducible refine wpList_store_ob 29 (.tmp 6) b6 (fltCells ⟨f.kind, f.at_, f.page, x, y, f.mask⟩) (fltCells fltNil) 29 ?_ ?_ ?_ ?_ ?_ ?_ ?_); (exact rfl); (exact rfl); (exact HZ.out.get 0 rfl); (exact info_flt); (exact rfl); (exact (oneCell_flt _)); skip))
      have HY := Lib.hid (HZ.out.row 0 rfl (fltCells ⟨f.kind, f.at_, f.page, x, y, f.mask⟩))
      refine bodyPost_ret (results_ob Try.results24 _ _ b6 (fltCells ⟨f.kind, f.at_, f.page, x, y, f.mask⟩) 29 _ rfl (HY.out.get 0 rfl) HUF.out rfl info_flt) rfl ⟨_, HZg.out, rfl, HY.out.dr.bes, HY.out.codes⟩
    · go_wp2_with fail
      refine (next_m m C 9 _ HD5.out.codes (by omega)).mono ?_
      rintro e w7 ⟨x, rfl, x0, x1, hb, hc⟩
      have HA := Lib.hid (HD5.out.draws hb hc)
      clear hb hc
      have hx1 : IntKind.i64.wrap (x - 1) = x - 1 := IntWalk.i64_in _ (by omega)
      have c0 := HA.out.cell 1 rfl 0 rfl
      have g0 := HA.out.frozen 1 rfl 0
      go_upto_region 20 with (fail)
      have HZ : Hid (DrM m w C [⟨b6, 29, fltCells fltNil⟩, ⟨b7, 29, fltCells ⟨x - 1, f.at_, f.page, f.target, f.byte, f.mask⟩⟩] ((w7).setCell ⟨b7, 0, none⟩ (.int .i64 (x - 1)))) := HA.out.set 1 rfl 0 (.int .i64 (x - 1))
      have HZg : Hid (GoodFlt ⟨x - 1, f.at_, f.page, f.target, f.byte, f.mask⟩) := Lib.hid (HG.out.kd (x := x - 1) (by omega))
      clear HG HD5
      generalize (w7).setCell ⟨b7, 0, none⟩ (.int .i64 (x - 1)) = wz at *
      go_wp2_with (first | ((with_reducible refine wpList_load_ob 29 (.tmp 7) b7 (fltCells ⟨x - 1, f.at_, f.page, f.target, f.byte, f.mask⟩) 29 HUF.out ?_ ?_ ?_ ?_ ?_); (exact rfl); (exact HZ.out.get 1 rfl); (exact rfl); (exact info_flt); simp only [Act.put, List.setIfInBounds_toArray, List.set_cons_zero, List.set_cons_succ]) | ((with_reducible refine wpList_store_ob 29 (.tmp 6) b6 (fltCells ⟨x - 1, f.at_, f.page, f.target, f.byte, f.mask⟩) (fltCells fltNil) 29 ?_ ?_ ?_ ?_ ?_ ?_ ?_); (exact rfl); (exact rfl); (exact HZ.out.get 0 rfl); (exact info_flt); (exact rfl); (exact (oneCell_flt _)); skip))
      have HY := Lib.hid (HZ.out.row 0 rfl (fltCells ⟨x - 1, f.at_, f.page, f.target, f.byte, f.mask⟩))
      refine bodyPost_ret (results_ob Try.results24 _ _ b6 (fltCells ⟨x - 1, f.at_, f.page, f.target, f.byte, f.mask⟩) 29 _ rfl (HY.out.get 0 rfl) HUF.out rfl info_flt) rfl ⟨_, HZg.out, rfl, HY.out.dr.bes, HY.out.codes⟩
    · have hn1 : ¬ v = 12 := by omega
      have hn2 : ¬ v = 13 := by omega
      have hn3 : ¬ v = 14 := by omega
      have hn4 : ¬ v = 15 := by omega
      clear hv0 hv1
      go_upto_region 20 with (fail)
      have HZ : Hid (DrM m w C [⟨b6, 29, fltCells fltNil⟩, ⟨b7, 29, fltCells f⟩] (w6)) := HD5.out
      have HZg : Hid (GoodFlt f) := Lib.hid HG.out
      have wz := w6
      go_wp2_with (first | ((with_reducible refine wpList_load_ob 29 (.tmp 7) b7 (fltCells f) 29 HUF.out ?_ ?_ ?_ ?_ ?_); (exact rfl); (exact HZ.out.get 1 rfl); (exact rfl); (exact info_flt); simp only [Act.put, List.setIfInBounds_toArray, List.set_cons_zero, List.set_cons_succ]) | ((with_reducible refine wpList_store_ob 29 (.tmp 6) b6 (fltCells f) (fltCells fltNil) 29 ?_ ?_ ?_ ?_ ?_ ?_ ?_); (exact rfl); (exact rfl); (exact HZ.out.get 0 rfl); (exact info_flt); (exact rfl); (exact (oneCell_flt _)); skip))
      have HY := Lib.hid (HZ.out.row 0 rfl (fltCells f))
      refine bodyPost_ret (results_ob Try.results24 _ _ b6 (fltCells f) 29 _ rfl (HY.out.get 0 rfl) HUF.out rfl info_flt) rfl ⟨_, HZg.out, rfl, HY.out.dr.bes, HY.out.codes⟩
end Go.Proofs.Ythcjkbhkidijoaa
