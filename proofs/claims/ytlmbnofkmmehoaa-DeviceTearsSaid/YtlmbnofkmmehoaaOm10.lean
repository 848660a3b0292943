/- texts of a claim, one after the other: the program's Write, the program's Tear, the program's blanks, the program's New -/
import Derived.Test.YtlmbnofkmmehoaaOm9
import Derived.Test.YtlmbnofkmmehoaaOm6
/- the program's Write -/
namespace Go.Proofs.Ytlmbnofkmmehoaa
open Go.RowKit
set_option maxRecDepth 20000
set_option linter.unusedSimpArgs false
set_option linter.unusedVariables false

theorem now_eq (d : Dv) : (d.faults.filter fun x => !decide (¬ x.at_ = d.writes + 1)) = nowR d := by
  unfold nowR
  congr 1
  funext x
  simp
theorem land_faults (d : Dv) (page : Int) (s : ByteArray) : ∀ l : List Flt, (landR d page s l).faults = d.faults
  | [] => rfl
  | x :: l => by
    unfold landR
    split
    · rfl
    · split
      · rfl
      · split
        · rfl
        · exact land_faults d page s l
theorem happen_faults (d : Dv) (x : Flt) : (happenR d x).faults = d.faults := by
  unfold happenR
  split
  · rfl
  · split
    · rfl
    · split <;> rfl
theorem fold_faults : ∀ (l : List Flt) (d : Dv), (l.foldl happenR d).faults = d.faults
  | [], _ => rfl
  | x :: l, d => (fold_faults l (happenR d x)).trans (happen_faults d x)
/-- what a valid device is to the program's Write -/
theorem ok_inv {d : Dv} (h : dvOkB d = true) : DvInv d.pages.length 64 d ∧ d.pages.length ≤ 64 ∧ d.faults.length ≤ 64 ∧ 0 ≤ d.writes ∧ d.writes ≤ 1099511627776 ∧ ∀ x ∈ d.faults, fltOkB d.pages.length d.writes x = true := by
  unfold dvOkB numsB at h
  simp only [Bool.and_eq_true, Bool.not_eq_true', decide_eq_false_iff_not] at h
  obtain ⟨⟨h1, h2, h3, h4, h5⟩, h6, h7, h8⟩ := h
  have hb : ∀ i, i < d.unread.length → unreadAtB d.pages.length d.unread i = true := fun i hi => (List.all_eq_true.1 h7) i (List.mem_range.2 hi)
  have hat : ∀ i (hi : i < d.unread.length), 0 ≤ d.unread[i] ∧ d.unread[i] < (d.pages.length : Int) ∧ (0 < i → d.unread.getD (i - 1) 0 < d.unread[i]) := fun i hi => by
    have := hb i hi
    unfold unreadAtB at this
    have e : d.unread.getD i 0 = d.unread[i] := by rw [List.getD_eq_getElem?_getD, List.getElem?_eq_getElem hi]; rfl
    rw [e] at this
    simp only [Bool.and_eq_true, Bool.not_eq_true', decide_eq_false_iff_not, Bool.and_eq_false_iff] at this
    refine ⟨by omega, by omega, fun h0 => ?_⟩
    rcases this.2.2 with h9 | h9
    · exact absurd h0 h9
    · omega
  have hasc : d.unread.Pairwise (· < ·) := by
    rw [List.pairwise_iff_getElem]
    intro i j hi hj hij
    induction j with
    | zero => omega
    | succ j ih =>
      have hstep := (hat (j + 1) hj).2.2 (Nat.succ_pos _)
      have e : d.unread.getD (j + 1 - 1) 0 = d.unread[j]'(by omega) := by rw [Nat.add_sub_cancel, List.getD_eq_getElem?_getD, List.getElem?_eq_getElem (by omega)]; rfl
      rw [e] at hstep
      rcases Nat.lt_or_eq_of_le (Nat.le_of_lt_succ hij) with h9 | h9
      · have := ih (by omega) h9
        omega
      · subst h9; exact hstep
  have hge : ∀ i (hi : i < d.unread.length), (i : Int) ≤ d.unread[i] := by
    intro i
    induction i with
    | zero => intro hi; exact (hat 0 hi).1
    | succ i ih =>
      intro hi
      have h9 := ih (by omega)
      have h10 := List.pairwise_iff_getElem.1 hasc i (i + 1) (by omega) hi (Nat.lt_succ_self _)
      omega
  have hfew : d.unread.length ≤ 64 := by
    rcases Nat.eq_zero_or_pos d.unread.length with h0 | h0
    · omega
    · have h9 := hge (d.unread.length - 1) (by omega)
      have h10 := (hat (d.unread.length - 1) (by omega)).2.1
      omega
  refine ⟨⟨rfl, fun s hs => by simpa using (List.all_eq_true.1 h6) s hs, hasc, hfew⟩, by omega, by omega, by omega, by omega, fun x hx => (List.all_eq_true.1 h8) x hx⟩
theorem flt_ranges {n : Nat} {w : Int} {x : Flt} (h : fltOkB n w x = true) : (0 ≤ x.target ∧ x.target < (n : Int)) ∧ (0 ≤ x.byte ∧ x.byte < 256) ∧ (0 ≤ x.page ∧ x.page < (n : Int)) := by
  unfold fltOkB rangesB at h
  simp only [Bool.and_eq_true, Bool.not_eq_true', decide_eq_false_iff_not] at h
  obtain ⟨⟨h1, h2, h3, h4, h5, h6, h7, h8⟩, _⟩ := h
  omega
theorem mask_rng {x : Flt} (h : GoodFlt x) : 0 ≤ x.mask ∧ x.mask < 256 := by
  have := h.mask
  have e1 : IntKind.u8.min = 0 := by decide
  have e2 : IntKind.u8.max = 255 := by decide
  simp [Lit.wf, e1, e2] at this
  omega
set_option maxHeartbeats 16000000 in
theorem write_any {p u f : Value} {d : Dv} {R : List Rng} (page : Int) (s : ByteArray) (w : World) (h : DvRd p u f d R) (hR : RdIn w R) (hg : GoodDv d) (hss : s.size ≤ maxLen) (hp : d.pages.length ≤ 1000) (hf : d.faults.length ≤ 1000) :
    Calls Try.prog 20 #[.agg (dvCells p d u f).toArray, .int .i64 page, .string s] w (DvPost w R (writeR d page s)) := by
  have HV : Hid (∀ W, Below w.heap.size w W → Calls Try.prog 38 #[.agg (dvCells p d u f).toArray, .int .i64 page] W fun e w' => e = .returned (.int .i64 (usableR d page)) ∧ Below W.heap.size W w') := fun W hb => reach_any page W h (hR.below hb) hg
  have HCp : Hid (∀ W, Below w.heap.size w W → Calls Try.prog 39 #[.agg (dvCells p d u f).toArray] W fun e w' => ∃ v, e = .returned v ∧ OwnDv W w' v d) := fun W hb => copied_any W h (hR.below hb) hp hg.unread hf
  have HGf : Hid (∀ x ∈ d.faults, GoodFlt x) := hg.faults
  have HLf := Lib.hid hf
  obtain ⟨fs, hud⟩ := under_dv
  have HUD := Lib.hid hud
  obtain ⟨fs2, huf⟩ := under_flt
  have HUF := Lib.hid huf
  clear hud huf
  obtain ⟨pa, pc, rfl, hp1, hp3, hP2⟩ := h.pages.open hR
  obtain ⟨ua, uc, rfl, hu1, hu3, hU2⟩ := h.unread.open hR
  obtain ⟨fa, fc, rfl, hf1, hf3, hF2⟩ := h.faults.open hR
  clear h hR hg hP2 hU2 hF2 hf hp
  have h1 := ((Hp.start w).put 27 (dvCells (.slice pa d.pages.length pc) d (.slice ua d.unread.length uc) (.slice fa d.faults.length fc))).put 27 (dvCells nilS dvNil nilS nilS)
  simp only [World.size_alloc, List.nil_append, List.cons_append] at h1
  have HS0 : Hid (Hp w [.ob w.heap.size 27 (dvCells (.slice pa d.pages.length pc) d (.slice ua d.unread.length uc) (.slice fa d.faults.length fc)), .ob (w.heap.size + 1) 27 (dvCells nilS dvNil nilS nilS)] ((w.alloc (.cells (dvCells (.slice pa d.pages.length pc) d (.slice ua d.unread.length uc) (.slice fa d.faults.length fc)).toArray 27)).alloc (.cells #[.slice none 0 0, .int .i64 0, .slice none 0 0, .bool false, .slice none 0 0] 27))) := h1
  clear h1 hp1 hp3 hu1 hu3 hf1 hf3
  have hsm : (s.size : Int) ≤ 9223372036854775807 := by unfold maxLen at hss; omega
  clear hss
  go_enter Try.func20, Try.ntmps20
  go_wp2_with (first | ((with_reducible refine wpList_load_ob 27 (.tmp 3) (w.heap.size) (dvCells (.slice pa d.pages.length pc) d (.slice ua d.unread.length uc) (.slice fa d.faults.length fc)) 27 HUD.out ?_ ?_ ?_ ?_ ?_); (exact rfl); (exact (HS0.out).get 0 rfl); (exact rfl); (exact info_dv); simp only [Act.put, List.setIfInBounds_toArray, List.set_cons_zero, List.set_cons_succ]))
  refine (HV.out _ (HS0.out).old).mono ?_
  rintro e w3 ⟨rfl, hb⟩
  have HS2 : Hid (Hp w [.ob (w.heap.size) 27 (dvCells (.slice pa d.pages.length pc) d (.slice ua d.unread.length uc) (.slice fa d.faults.length fc)), .ob ((w.heap.size + 1)) 27 (dvCells nilS dvNil nilS nilS)] w3) := (HS0.out).calls hb
  clear hb
  clear HS0
  generalize (w.heap.size + 1) = B1 at *
  clear HV
  by_cases hv : usableR d page = 0
  case neg =>
    have HX := Lib.hid hv
    have hq : (usableR d page != 0) = true := by rw [bne_iff_ne]; exact hv
    clear hv
    go_wp2_with (first | ((with_reducible refine wpList_build_v 27 (.agg (dvCells nilS dvNil nilS nilS).toArray) ?_ ?_); (intro W; simp only [List.map_toArray, List.map_cons, List.map_nil]; exact build_dv0 W); simp only [Act.put, List.setIfInBounds_toArray, List.set_cons_zero, List.set_cons_succ]) | ((with_reducible refine wpList_store_ob 27 (.tmp 6) B1 (dvCells nilS dvNil nilS nilS) (dvCells nilS dvNil nilS nilS) 27 ?_ ?_ ?_ ?_ ?_ ?_ ?_); (exact rfl); (exact rfl); (exact (HS2.out).get 1 rfl); (exact info_dv); (exact rfl); (exact (oneCell_dv _ _ _ _ _ _ _ _ _ _)); skip))
    have HS3 : Hid (Hp w [.ob (w.heap.size) 27 (dvCells (.slice pa d.pages.length pc) d (.slice ua d.unread.length uc) (.slice fa d.faults.length fc)), .ob B1 27 (dvCells nilS dvNil nilS nilS)] (w3.setRow B1 (dvCells nilS dvNil nilS nilS).toArray)) := (HS2.out).row 1 rfl (dvCells nilS dvNil nilS nilS)
    clear HS2
    generalize (w3.setRow B1 (dvCells nilS dvNil nilS nilS).toArray) = w4 at *
    refine bodyPost_ret (results_ob_tmp Try.results20 _ _ B1 (dvCells nilS dvNil nilS nilS) 27 _ rfl (HS3.out.get 1 rfl) HUD.out rfl info_dv) rfl ?_
    exact DvPost.none (by unfold writeR; rw [if_pos HX.out]) HS3.out.old
  case pos =>
    have HX : Hid (¬ usableR d page ≠ 0) := fun h => h hv
    have hq : (usableR d page != 0) = false := by rw [hv]; rfl
    obtain ⟨hok, hdd, g0, g1⟩ := usable_ok hv
    have HOk := Lib.hid (ok_inv hok)
    obtain ⟨k, rfl⟩ := Int.eq_ofNat_of_zero_le g0
    have HKn : Hid (k < d.pages.length) := by show _ < _; omega
    clear hv hok hdd g0 g1
    have b1 : w3.cell? ⟨w.heap.size, 1, none⟩ = some (.int .i64 d.writes) := (HS2.out).at 0 rfl 1 rfl
    by_cases hz : s.size = 256
    case neg =>
      have HY := Lib.hid hz
      have hqs : ((s.size : Int) != 256) = true := by rw [bne_iff_ne]; omega
      clear hz
      go_wp2_with (first | ((with_reducible refine wpList_build_v 27 (.agg (dvCells nilS dvNil nilS nilS).toArray) ?_ ?_); (intro W; simp only [List.map_toArray, List.map_cons, List.map_nil]; exact build_dv0 W); simp only [Act.put, List.setIfInBounds_toArray, List.set_cons_zero, List.set_cons_succ]) | ((with_reducible refine wpList_store_ob 27 (.tmp 6) B1 (dvCells nilS dvNil nilS nilS) (dvCells nilS dvNil nilS nilS) 27 ?_ ?_ ?_ ?_ ?_ ?_ ?_); (exact rfl); (exact rfl); (exact (HS2.out).get 1 rfl); (exact info_dv); (exact rfl); (exact (oneCell_dv _ _ _ _ _ _ _ _ _ _)); skip))
      have HS3 : Hid (Hp w [.ob (w.heap.size) 27 (dvCells (.slice pa d.pages.length pc) d (.slice ua d.unread.length uc) (.slice fa d.faults.length fc)), .ob B1 27 (dvCells nilS dvNil nilS nilS)] (w3.setRow B1 (dvCells nilS dvNil nilS nilS).toArray)) := (HS2.out).row 1 rfl (dvCells nilS dvNil nilS nilS)
      clear HS2
      generalize (w3.setRow B1 (dvCells nilS dvNil nilS nilS).toArray) = w4 at *
      refine bodyPost_ret (results_ob_tmp Try.results20 _ _ B1 (dvCells nilS dvNil nilS nilS) 27 _ rfl (HS3.out.get 1 rfl) HUD.out rfl info_dv) rfl ?_
      exact DvPost.none (by unfold writeR; rw [if_neg HX.out, if_pos HY.out]) HS3.out.old
    case pos =>
      have HY : Hid (¬ s.size ≠ 256) := fun h => h hz
      have HSz := Lib.hid hz
      have hqs : ((s.size : Int) != 256) = false := by rw [hz]; rfl
      clear hz
      by_cases hl : d.writes = 1099511627776
      case pos =>
        have HZ := Lib.hid hl
        have hql : (d.writes == 1099511627776) = true := by rw [hl]; rfl
        clear hl
        go_wp2_with (first | ((with_reducible refine wpList_build_v 27 (.agg (dvCells nilS dvNil nilS nilS).toArray) ?_ ?_); (intro W; simp only [List.map_toArray, List.map_cons, List.map_nil]; exact build_dv0 W); simp only [Act.put, List.setIfInBounds_toArray, List.set_cons_zero, List.set_cons_succ]) | ((with_reducible refine wpList_store_ob 27 (.tmp 6) B1 (dvCells nilS dvNil nilS nilS) (dvCells nilS dvNil nilS nilS) 27 ?_ ?_ ?_ ?_ ?_ ?_ ?_); (exact rfl); (exact rfl); (exact (HS2.out).get 1 rfl); (exact info_dv); (exact rfl); (exact (oneCell_dv _ _ _ _ _ _ _ _ _ _)); skip))
        have HS3 : Hid (Hp w [.ob (w.heap.size) 27 (dvCells (.slice pa d.pages.length pc) d (.slice ua d.unread.length uc) (.slice fa d.faults.length fc)), .ob B1 27 (dvCells nilS dvNil nilS nilS)] (w3.setRow B1 (dvCells nilS dvNil nilS nilS).toArray)) := (HS2.out).row 1 rfl (dvCells nilS dvNil nilS nilS)
        clear HS2
        generalize (w3.setRow B1 (dvCells nilS dvNil nilS nilS).toArray) = w4 at *
        refine bodyPost_ret (results_ob_tmp Try.results20 _ _ B1 (dvCells nilS dvNil nilS nilS) 27 _ rfl (HS3.out.get 1 rfl) HUD.out rfl info_dv) rfl ?_
        exact DvPost.none (by unfold writeR; rw [if_neg HX.out, if_neg HY.out, if_pos HZ.out]) HS3.out.old
      case neg =>
        have HZ := Lib.hid hl
        have hql : (d.writes == 1099511627776) = false := by rw [beq_eq_false_iff_ne]; exact hl
        have hwr : IntKind.i64.wrap (d.writes + 1) = d.writes + 1 := by rw [IntKind.wrap_i64]; have := HOk.out.2.2.2; omega
        clear hl
        go_wp2_with (first | ((with_reducible refine wpList_load_ob 27 (.tmp 3) (w.heap.size) (dvCells (.slice pa d.pages.length pc) d (.slice ua d.unread.length uc) (.slice fa d.faults.length fc)) 27 HUD.out ?_ ?_ ?_ ?_ ?_); (exact rfl); (exact (HS2.out).get 0 rfl); (exact rfl); (exact info_dv); simp only [Act.put, List.setIfInBounds_toArray, List.set_cons_zero, List.set_cons_succ]))
        refine (HCp.out _ (HS2.out).old).mono ?_
        rintro e w20 ⟨v, rfl, p', u', f', rfl, hk⟩
        obtain ⟨a1, c1, rfl⟩ := own_slice (hk.own 0 rfl)
        obtain ⟨a2, c2, rfl⟩ := own_slice (hk.own 1 rfl)
        obtain ⟨a3, c3, rfl⟩ := own_slice (hk.own 2 rfl)
        have HS3 : Hid (Hp w [.ob (w.heap.size) 27 (dvCells (.slice pa d.pages.length pc) d (.slice ua d.unread.length uc) (.slice fa d.faults.length fc)), .ob B1 27 (dvCells nilS dvNil nilS nilS), .sl ((.slice a1 d.pages.length c1)) 9 1 (d.pages.length) (strRow d.pages), .sl ((.slice a2 d.unread.length c2)) 3 1 (d.unread.length) (intRow d.unread), .sl ((.slice a3 d.faults.length c3)) 29 6 (d.faults.length) (fltRow d.faults)] w20) := (HS2.out).join hk (three_sl (sl_plain _ _ _ _ _) (sl_plain _ _ _ _ _) (sl_plain _ _ _ _ _))
        clear HS2
        clear HCp b1 hk
        have b1 : (w20.setRow (w.heap.size) (dvCells (.slice a1 d.pages.length c1) d (.slice a2 d.unread.length c2) (.slice a3 d.faults.length c3)).toArray).cell? ⟨w.heap.size, 1, none⟩ = some (.int .i64 d.writes) := ((HS3.out).row 0 rfl (dvCells (.slice a1 d.pages.length c1) d (.slice a2 d.unread.length c2) (.slice a3 d.faults.length c3))).at 0 rfl 1 rfl
        have f1 : (w20.setRow (w.heap.size) (dvCells (.slice a1 d.pages.length c1) d (.slice a2 d.unread.length c2) (.slice a3 d.faults.length c3)).toArray).frozen? ⟨w.heap.size, 1, none⟩ = false := ((HS3.out).row 0 rfl (dvCells (.slice a1 d.pages.length c1) d (.slice a2 d.unread.length c2) (.slice a3 d.faults.length c3))).frozen 0 rfl 1
        have HS5 : Hid (Hp w [.ob w.heap.size 27 (dvCells (.slice a1 d.pages.length c1) (⟨d.pages, d.writes + 1, d.unread, d.dead, d.faults⟩ : Dv) (.slice a2 d.unread.length c2) (.slice a3 d.faults.length c3)), .ob B1 27 (dvCells nilS dvNil nilS nilS), .sl (.slice a1 d.pages.length c1) 9 1 d.pages.length (strRow d.pages), .sl (.slice a2 d.unread.length c2) 3 1 d.unread.length (intRow d.unread), .sl (.slice a3 d.faults.length c3) 29 6 d.faults.length (fltRow d.faults)] ((w20.setRow (w.heap.size) (dvCells (.slice a1 d.pages.length c1) d (.slice a2 d.unread.length c2) (.slice a3 d.faults.length c3)).toArray).setCell ⟨w.heap.size, 1, none⟩ (.int .i64 (d.writes + 1)))) := ((HS3.out).row 0 rfl (dvCells (.slice a1 d.pages.length c1) d (.slice a2 d.unread.length c2) (.slice a3 d.faults.length c3))).set 0 rfl 1 (.int .i64 (d.writes + 1))
        have b4 := HS5.out.at 0 rfl 4 rfl
        go_wp2_with (first | ((with_reducible refine wpList_store_ob 27 (.tmp 3) (w.heap.size) (dvCells (.slice a1 d.pages.length c1) d (.slice a2 d.unread.length c2) (.slice a3 d.faults.length c3)) (dvCells (.slice pa d.pages.length pc) d (.slice ua d.unread.length uc) (.slice fa d.faults.length fc)) 27 ?_ ?_ ?_ ?_ ?_ ?_ ?_); (exact rfl); (exact rfl); (exact (HS3.out).get 0 rfl); (exact info_dv); (exact rfl); (exact (oneCell_dv _ _ _ _ _ _ _ _ _ _)); skip))
        clear b1 f1 b4 HS3
        generalize (w20.setRow (w.heap.size) (dvCells (.slice a1 d.pages.length c1) d (.slice a2 d.unread.length c2) (.slice a3 d.faults.length c3)).toArray).setCell ⟨w.heap.size, 1, none⟩ (.int .i64 (d.writes + 1)) = w5 at *
        have HS6 : Hid (Hp w (DvTh w.heap.size (.slice a1 d.pages.length c1) (.slice a2 d.unread.length c2) (.slice a3 d.faults.length c3) (⟨d.pages, d.writes + 1, d.unread, d.dead, d.faults⟩ : Dv) [.ob B1 27 (dvCells nilS dvNil nilS nilS), .sl (.slice a3 d.faults.length c3) 29 6 d.faults.length (fltRow d.faults)]) w5) := HS5.out.pull [0, 2, 3, 1, 4] rfl (pull_nd HS5.out.nd [0, 2, 3, 1, 4] rfl (by decide))
        clear HS5
        obtain ⟨R3, hr3, hi3, _⟩ := own_reads (HS6.out.own 4 rfl)
        refine (cloneF_any d.faults _ R3 w5 hr3 hi3 HLf.out).mono ?_
        rintro e w6 ⟨v6, rfl, hb6, ho6⟩
        have HS7 : Hid (Hp w (DvTh w.heap.size (.slice a1 d.pages.length c1) (.slice a2 d.unread.length c2) (.slice a3 d.faults.length c3) (⟨d.pages, d.writes + 1, d.unread, d.dead, d.faults⟩ : Dv) [.ob B1 27 (dvCells nilS dvNil nilS nilS), .sl (.slice a3 d.faults.length c3) 29 6 d.faults.length (fltRow d.faults), .sl v6 29 6 d.faults.length (fltRow d.faults)]) w6) := HS6.out.addown hb6 ho6
        clear HS6 hr3 hi3 hb6 ho6
        have hfn1 : FltFnX 42 #[.pointer (some ⟨w.heap.size, 0, none⟩)] (fun x => decide (¬ x.at_ = d.writes + 1)) d.faults v6.ownBlock w6 := fun W x hx hgr => w1_any x (d.writes + 1) w.heap.size W (by
          rw [World.cell?_of_block (a := ⟨w.heap.size, 1, none⟩) (hgr.block w.heap.size (HS7.out.lt 0 rfl rfl).2 (fun e => HS7.out.ne 0 5 rfl rfl (by decide) rfl e.symm rfl))]
          exact HS7.out.at 0 rfl 1 rfl)
        go_wp2_with fail
        refine (delFlt_own _ _ _ d.faults v6 w.heap.size w6 enters_w1 (HS7.out.own 5 rfl) hfn1 HLf.out).mono ?_
        rintro e w7 ⟨v7, rfl, ho7, hgr7, hbl7⟩
        rw [now_eq] at ho7
        have HS8 : Hid (Hp w (DvTh w.heap.size (.slice a1 d.pages.length c1) (.slice a2 d.unread.length c2) (.slice a3 d.faults.length c3) (⟨d.pages, d.writes + 1, d.unread, d.dead, d.faults⟩ : Dv) [.ob B1 27 (dvCells nilS dvNil nilS nilS), .sl (.slice a3 d.faults.length c3) 29 6 d.faults.length (fltRow d.faults), .sl v7 29 6 (nowR d).length (fltRow (nowR d))]) w7) := HS7.out.grown 5 rfl ho7 hgr7 (.inl hbl7)
        clear HS7 hfn1 ho7 hgr7 hbl7
        have hfn2 : FltFnX 43 #[.pointer (some ⟨w.heap.size, 0, none⟩)] (fun x => decide (x.at_ = d.writes + 1)) d.faults ((.slice a3 d.faults.length c3) : Value).ownBlock w7 := fun W x hx hgr => w2_any x (d.writes + 1) w.heap.size W (by
          rw [World.cell?_of_block (a := ⟨w.heap.size, 1, none⟩) (hgr.block w.heap.size (HS8.out.lt 0 rfl rfl).2 (fun e => HS8.out.ne 0 4 rfl rfl (by decide) rfl e.symm rfl))]
          exact HS8.out.at 0 rfl 1 rfl)
        have b4 := HS8.out.at 0 rfl 4 rfl
        go_wp2_with fail
        refine (delFlt_own _ _ _ d.faults (.slice a3 d.faults.length c3) w.heap.size w7 enters_w2 (HS8.out.own 4 rfl) hfn2 HLf.out).mono ?_
        rintro e w8 ⟨v8, rfl, ho8, hgr8, hbl8⟩
        rw [show (d.faults.filter fun x => !decide (x.at_ = d.writes + 1)) = laterR d from rfl] at ho8
        obtain ⟨a8, c8, rfl⟩ := own_slice ho8
        have HS9 : Hid (Hp w (DvTh w.heap.size (.slice a1 d.pages.length c1) (.slice a2 d.unread.length c2) (.slice a3 d.faults.length c3) (⟨d.pages, d.writes + 1, d.unread, d.dead, d.faults⟩ : Dv) [.ob B1 27 (dvCells nilS dvNil nilS nilS), .sl (.slice a8 (laterR d).length c8) 29 6 (laterR d).length (fltRow (laterR d)), .sl v7 29 6 (nowR d).length (fltRow (nowR d))]) w8) := HS8.out.grown 4 rfl ho8 hgr8 (.inl hbl8)
        clear HS8 hfn2 ho8 hgr8 hbl8 b4
        have b4 := HS9.out.at 0 rfl 4 rfl
        have f4 := HS9.out.frozen 0 rfl 4
        have HS10 : Hid (Hp w (DvTh w.heap.size (.slice a1 d.pages.length c1) (.slice a2 d.unread.length c2) (.slice a8 (laterR d).length c8) (⟨d.pages, d.writes + 1, d.unread, d.dead, laterR d⟩ : Dv) [.ob B1 27 (dvCells nilS dvNil nilS nilS), .sl (.slice a8 (laterR d).length c8) 29 6 (laterR d).length (fltRow (laterR d)), .sl v7 29 6 (nowR d).length (fltRow (nowR d))]) (w8.setCell ⟨w.heap.size, 4, none⟩ (.slice a8 (laterR d).length c8))) := HS9.out.set 0 rfl 4 (.slice a8 (laterR d).length c8)
        go_wp2_with fail
        clear b4 f4 HS9
        generalize w8.setCell ⟨w.heap.size, 4, none⟩ (.slice a8 (laterR d).length c8) = w10 at *
        obtain ⟨a7, c7, rfl⟩ := own_slice (HS10.out.own 5 rfl)
        have HNl : Hid ((nowR d).length ≤ 64) := Nat.le_trans (List.length_filter_le _ _) HOk.out.2.2.1
        have HNx : Hid (∀ x ∈ nowR d, ((0 ≤ x.target ∧ x.target < (d.pages.length : Int)) ∧ (0 ≤ x.byte ∧ x.byte < 256) ∧ (0 ≤ x.page ∧ x.page < (d.pages.length : Int))) ∧ (0 ≤ x.mask ∧ x.mask < 256)) := fun x hx => ⟨flt_ranges (HOk.out.2.2.2.2.2 x (List.mem_filter.1 hx).1), mask_rng (HGf.out x (List.mem_filter.1 hx).1)⟩
        obtain ⟨R7, hr7, hi7, _⟩ := own_reads (HS10.out.own 5 rfl)
        refine (fate_any (nowR d) _ R7 w10 hr7 hi7 (by have := HNl.out; omega)).mono ?_
        rintro e w11 ⟨rfl, hb11⟩
        have HS11 := Lib.hid (HS10.out.calls hb11)
        clear HS10 hb11 hr7 hi7
        have HI2 : Hid (DvInv d.pages.length 64 (⟨d.pages, d.writes + 1, d.unread, d.dead, laterR d⟩ : Dv)) := ⟨rfl, HOk.out.1.all, HOk.out.1.asc, HOk.out.1.few⟩
        have hcar := carry_any s k (nowR d) HS11.out HI2.out (by have := HOk.out.2.1; omega) (by decide) HKn.out HSz.out (fun x hx => ⟨(HNx.out x hx).1.1, (HNx.out x hx).1.2.1⟩)
        have HI3 : Hid (DvInv d.pages.length 64 (landR (⟨d.pages, d.writes + 1, d.unread, d.dead, laterR d⟩ : Dv) k s (nowR d))) := land_inv HI2.out k ⟨by omega, by have := HKn.out; omega⟩ s HSz.out _ (fun x hx => ⟨(HNx.out x hx).1.1, (HNx.out x hx).1.2.1⟩)
        have HRes : Hid (writeR d k s = ((nowR d).foldl happenR (landR (⟨d.pages, d.writes + 1, d.unread, d.dead, laterR d⟩ : Dv) k s (nowR d)), 0)) := by
          show _ = _
          unfold writeR
          rw [if_neg HX.out, if_neg HY.out, if_neg HZ.out]
        go_wp2_with fail
        refine hcar.mono ?_
        rintro e w12 ⟨rfl, u12, h12⟩
        have HS12 := Lib.hid h12
        clear hcar h12 HS11
        have HF3 : Hid ((landR (⟨d.pages, d.writes + 1, d.unread, d.dead, laterR d⟩ : Dv) k s (nowR d)).faults = laterR d) := land_faults _ _ _ _
        generalize landR (⟨d.pages, d.writes + 1, d.unread, d.dead, laterR d⟩ : Dv) k s (nowR d) = d3 at *
        obtain ⟨l, hll⟩ : ∃ l, nowR d = l := ⟨_, rfl⟩
        rw [hll] at HS12 HRes HNx HNl
        go_wp2_with fail
        clear hll HI2 HKn HSz hsm hwr hq hqs hql
        go_loopw [52] (fun i wr => ∃ (j : Nat) (uv : Value), j ≤ l.length ∧ i = .int .i64 j ∧ Hp w (DvTh w.heap.size (.slice a1 d.pages.length c1) uv (.slice a8 (laterR d).length c8) ((l.take j).foldl happenR d3) [.ob B1 27 (dvCells nilS dvNil nilS nilS), .sl (.slice a8 (laterR d).length c8) 29 6 (laterR d).length (fltRow (laterR d)), .sl (.slice a7 l.length c7) 29 6 l.length (fltRow l)]) wr) (fun i _ => l.length - (intOf i).toNat)
        case atStart => exact ⟨0, u12, by omega, rfl, HS12.out⟩
        case round =>
          obtain ⟨j, uv, hj, rfl, hs⟩ := hrel
          have HY2 := Lib.hid hs
          clear hs HS12
          by_cases hlt : j < l.length
          · have ho := HY2.out.own 5 rfl
            rcases ho.2 with ⟨_, h0⟩ | ⟨gq, cq, curq, hvq, hBq, hgq, hq1, hq2, hq3, hq4⟩
            · omega
            have ea : a7 = some ⟨gq, 0, none⟩ := by injection hvq
            subst ea
            obtain ⟨x, hx⟩ : ∃ x, l[j] = x := ⟨_, rfl⟩
            have hcells : Hid (wr.rangeAt gq (j * 6) (fltCells x)) := own_range ho rfl (j * 6) (fltCells x) (fun t v hv => fltRow_at l j hlt t v (by rw [hx]; exact hv))
            clear ho hvq hBq hgq hq1 hq2 hq3 hq4
            have hji : (j : Int) < (l.length : Int) := by omega
            have hj0 : (0 : Int) ≤ (j : Int) := by omega
            have hjm : (j : Int) < 1001 := by have := HNl.out; omega
            have HSt : Hid ((l.take (j + 1)).foldl happenR d3 = happenR ((l.take j).foldl happenR d3) x) := by
              show _ = _
              rw [List.take_succ_eq_append_getElem hlt, List.foldl_append, hx]
              rfl
            have hfi := fold_inv (l.take j) HI3.out
            have hxm : x ∈ l := by rw [← hx]; exact List.getElem_mem hlt
            have HStr : Hid (StrOk ((l.take j).foldl happenR d3) x) := ⟨by rw [hfi.num]; have := HOk.out.2.1; omega, hfi.all, hfi.asc, by have h1 := hfi.few; have h2 := HNl.out; rw [List.length_take] at h1; omega, by rw [hfi.num]; exact (HNx.out x hxm).1.2.2, (HNx.out x hxm).1.2.1, (HNx.out x hxm).2⟩
            clear hfi hxm hx
            have hrow : ((wr.alloc (.cells (fltCells fltNil).toArray 29)).setRow wr.heap.size (fltCells x).toArray).heap[wr.heap.size]? = some (.cells (fltCells x).toArray 29 (0, 0)) := setRow_heap _ _ _ _ _ _ (heap_alloc_last wr _)
            have HRow := Lib.hid hrow
            have HB3 := Lib.hid (HY2.out.calls (below_setRow ((Below.refl wr.heap.size wr).alloc (Nat.le_refl _) _) (Nat.le_refl _) (fltCells x).toArray) : Hp w _ ((wr.alloc (.cells (fltCells fltNil).toArray 29)).setRow wr.heap.size (fltCells x).toArray))
            have hstr := strike_any x HB3.out HStr.out
            clear hrow
            go_wp2_with (first | ((with_reducible refine wpList_load_at 29 (.tmp 54) gq (j * 6) (fltCells x) HUF.out ?_ ?_ ?_ ?_ ?_); (exact rfl); (exact hcells.out); (exact rfl); (exact info_flt); simp only [Act.put, List.setIfInBounds_toArray, List.set_cons_zero, List.set_cons_succ]) | ((with_reducible refine wpList_alloc_ob 29 (fltCells fltNil) ?_ ?_); (exact alloc_flt); simp only [Act.put, List.setIfInBounds_toArray, List.set_cons_zero, List.set_cons_succ]) | ((with_reducible refine wpList_store_ob 29 (.tmp 11) wr.heap.size (fltCells x) (fltCells fltNil) 29 ?_ ?_ ?_ ?_ ?_ ?_ ?_); (exact rfl); (exact rfl); (exact heap_alloc_last wr _); (exact info_flt); (exact rfl); (exact oneCell_flt _); skip) | ((with_reducible refine wpList_load_ob 29 (.tmp 11) wr.heap.size (fltCells x) 29 HUF.out ?_ ?_ ?_ ?_ ?_); (exact rfl); (exact HRow.out); (exact rfl); (exact info_flt); simp only [Act.put, List.setIfInBounds_toArray, List.set_cons_zero, List.set_cons_succ]))
            refine hstr.mono ?_
            rintro e w14 ⟨rfl, u14, h14⟩
            rw [← HSt.out] at h14
            have HS14 := Lib.hid h14
            clear h14 hstr HB3 HY2 HRow
            go_wp2_with fail
            go_roundw
            case rel => exact ⟨j + 1, u14, by omega, by go_num, HS14.out⟩
            case measure => simp [intOf]; omega
          · obtain rfl : j = l.length := by omega
            rw [List.take_length] at HY2
            have HFz : Hid ((l.foldl happenR d3).faults = laterR d) := by show _ = _; rw [fold_faults, HF3.out]
            generalize l.foldl happenR d3 = dz at *
            obtain ⟨az, cz, rfl⟩ := own_slice (HY2.out.own 2 rfl)
            go_wp2_with (first | ((with_reducible refine wpList_load_ob 27 (.tmp 3) w.heap.size (dvCells (.slice a1 d.pages.length c1) dz (.slice az dz.unread.length cz) (.slice a8 (laterR d).length c8)) 27 HUD.out ?_ ?_ ?_ ?_ ?_); (exact rfl); (exact HY2.out.get 0 rfl); (exact rfl); (exact info_dv); simp only [Act.put, List.setIfInBounds_toArray, List.set_cons_zero, List.set_cons_succ]) | ((with_reducible refine wpList_store_ob 27 (.tmp 6) B1 (dvCells (.slice a1 d.pages.length c1) dz (.slice az dz.unread.length cz) (.slice a8 (laterR d).length c8)) (dvCells nilS dvNil nilS nilS) 27 ?_ ?_ ?_ ?_ ?_ ?_ ?_); (exact rfl); (exact rfl); (exact HY2.out.get 3 rfl); (exact info_dv); (exact rfl); (exact (oneCell_dv _ _ _ _ _ _ _ _ _ _)); skip))
            have HF : Hid (Hp w [.ob w.heap.size 27 (dvCells (.slice a1 d.pages.length c1) dz (.slice az dz.unread.length cz) (.slice a8 (laterR d).length c8)), .sl (.slice a1 d.pages.length c1) 9 1 dz.pages.length (strRow dz.pages), .sl (.slice az dz.unread.length cz) 3 1 dz.unread.length (intRow dz.unread), .ob B1 27 (dvCells (.slice a1 d.pages.length c1) dz (.slice az dz.unread.length cz) (.slice a8 (laterR d).length c8)), .sl (.slice a8 (laterR d).length c8) 29 6 (laterR d).length (fltRow (laterR d)), .sl (.slice a7 l.length c7) 29 6 l.length (fltRow l)] (wr.setRow B1 (dvCells (.slice a1 d.pages.length c1) dz (.slice az dz.unread.length cz) (.slice a8 (laterR d).length c8)).toArray)) := HY2.out.row 3 rfl (dvCells (.slice a1 d.pages.length c1) dz (.slice az dz.unread.length cz) (.slice a8 (laterR d).length c8))
            clear HY2
            generalize wr.setRow B1 (dvCells (.slice a1 d.pages.length c1) dz (.slice az dz.unread.length cz) (.slice a8 (laterR d).length c8)).toArray = w15 at *
            refine bodyPost_ret (results_ob_tmp Try.results20 _ _ B1 (dvCells (.slice a1 d.pages.length c1) dz (.slice az dz.unread.length cz) (.slice a8 (laterR d).length c8)) 27 _ rfl (HF.out.get 3 rfl) HUD.out rfl info_dv) rfl ?_
            obtain ⟨R', hrd, hin, hnew⟩ := own_dv (d := dz) (HF.out.own 1 rfl) (HF.out.own 2 rfl) (by rw [HFz.out]; exact HF.out.own 4 rfl)
            rw [HRes.out]
            exact ⟨_, _, _, R', rfl, hrd, hin, fun r hr => .inl (hnew r hr), HF.out.old⟩
end Go.Proofs.Ytlmbnofkmmehoaa
/- the program's Tear -/
namespace Go.Proofs.Ytlmbnofkmmehoaa
open Go.RowKit
set_option maxRecDepth 20000
set_option linter.unusedSimpArgs false
set_option linter.unusedVariables false

set_option maxHeartbeats 16000000 in
theorem tear_any {p u f : Value} {d : Dv} {R : List Rng} (page : Int) (s : ByteArray) (cut : Int) (w : World) (h : DvRd p u f d R) (hR : RdIn w R) (hg : GoodDv d) (hss : s.size ≤ maxLen) (hp : d.pages.length ≤ 1000) (hf : d.faults.length ≤ 1000) :
    Calls Try.prog 27 #[.agg (dvCells p d u f).toArray, .int .i64 page, .string s, .int .i64 cut] w (DvPost w R (tearR d page s cut)) := by
  have HV : Hid (∀ W, Below w.heap.size w W → Calls Try.prog 38 #[.agg (dvCells p d u f).toArray, .int .i64 page] W fun e w' => e = .returned (.int .i64 (usableR d page)) ∧ Below W.heap.size W w') := fun W hb => reach_any page W h (hR.below hb) hg
  have HCp : Hid (∀ W, Below w.heap.size w W → Calls Try.prog 39 #[.agg (dvCells p d u f).toArray] W fun e w' => ∃ v, e = .returned v ∧ OwnDv W w' v d) := fun W hb => copied_any W h (hR.below hb) hp hg.unread hf
  obtain ⟨fs, hud⟩ := under_dv
  have HUD := Lib.hid hud
  obtain ⟨fs2, huf⟩ := under_flt
  have HUF := Lib.hid huf
  clear hud huf
  obtain ⟨pa, pc, rfl, hp1, hp3, hP2⟩ := h.pages.open hR
  obtain ⟨ua, uc, rfl, hu1, hu3, hU2⟩ := h.unread.open hR
  obtain ⟨fa, fc, rfl, hf1, hf3, hF2⟩ := h.faults.open hR
  clear h hR hg hP2 hU2 hF2 hf hp
  have h1 := ((Hp.start w).put 27 (dvCells (.slice pa d.pages.length pc) d (.slice ua d.unread.length uc) (.slice fa d.faults.length fc))).put 27 (dvCells nilS dvNil nilS nilS)
  simp only [World.size_alloc, List.nil_append, List.cons_append] at h1
  have HS0 : Hid (Hp w [.ob w.heap.size 27 (dvCells (.slice pa d.pages.length pc) d (.slice ua d.unread.length uc) (.slice fa d.faults.length fc)), .ob (w.heap.size + 1) 27 (dvCells nilS dvNil nilS nilS)] ((w.alloc (.cells (dvCells (.slice pa d.pages.length pc) d (.slice ua d.unread.length uc) (.slice fa d.faults.length fc)).toArray 27)).alloc (.cells #[.slice none 0 0, .int .i64 0, .slice none 0 0, .bool false, .slice none 0 0] 27))) := h1
  clear h1 hp1 hp3 hu1 hu3 hf1 hf3
  have hsm : (s.size : Int) ≤ 9223372036854775807 := by unfold maxLen at hss; omega
  clear hss
  go_enter Try.func27, Try.ntmps27
  go_wp2_with (first | ((with_reducible refine wpList_load_ob 27 (.tmp 4) (w.heap.size) (dvCells (.slice pa d.pages.length pc) d (.slice ua d.unread.length uc) (.slice fa d.faults.length fc)) 27 HUD.out ?_ ?_ ?_ ?_ ?_); (exact rfl); (exact (HS0.out).get 0 rfl); (exact rfl); (exact info_dv); simp only [Act.put, List.setIfInBounds_toArray, List.set_cons_zero, List.set_cons_succ]))
  refine (HV.out _ (HS0.out).old).mono ?_
  rintro e w3 ⟨rfl, hb⟩
  have HS2 : Hid (Hp w [.ob (w.heap.size) 27 (dvCells (.slice pa d.pages.length pc) d (.slice ua d.unread.length uc) (.slice fa d.faults.length fc)), .ob ((w.heap.size + 1)) 27 (dvCells nilS dvNil nilS nilS)] w3) := (HS0.out).calls hb
  clear hb
  clear HS0
  generalize (w.heap.size + 1) = B1 at *
  clear HV
  by_cases hv : usableR d page = 0
  case neg =>
    have HX := Lib.hid hv
    have hq : (usableR d page != 0) = true := by rw [bne_iff_ne]; exact hv
    clear hv
    go_wp2_with (first | ((with_reducible refine wpList_build_v 27 (.agg (dvCells nilS dvNil nilS nilS).toArray) ?_ ?_); (intro W; simp only [List.map_toArray, List.map_cons, List.map_nil]; exact build_dv0 W); simp only [Act.put, List.setIfInBounds_toArray, List.set_cons_zero, List.set_cons_succ]) | ((with_reducible refine wpList_store_ob 27 (.tmp 8) B1 (dvCells nilS dvNil nilS nilS) (dvCells nilS dvNil nilS nilS) 27 ?_ ?_ ?_ ?_ ?_ ?_ ?_); (exact rfl); (exact rfl); (exact (HS2.out).get 1 rfl); (exact info_dv); (exact rfl); (exact (oneCell_dv _ _ _ _ _ _ _ _ _ _)); skip))
    have HS3 : Hid (Hp w [.ob (w.heap.size) 27 (dvCells (.slice pa d.pages.length pc) d (.slice ua d.unread.length uc) (.slice fa d.faults.length fc)), .ob B1 27 (dvCells nilS dvNil nilS nilS)] (w3.setRow B1 (dvCells nilS dvNil nilS nilS).toArray)) := (HS2.out).row 1 rfl (dvCells nilS dvNil nilS nilS)
    clear HS2
    generalize (w3.setRow B1 (dvCells nilS dvNil nilS nilS).toArray) = w4 at *
    refine bodyPost_ret (results_ob_tmp Try.results27 _ _ B1 (dvCells nilS dvNil nilS nilS) 27 _ rfl (HS3.out.get 1 rfl) HUD.out rfl info_dv) rfl ?_
    exact DvPost.none (by unfold tearR; rw [if_pos HX.out]) HS3.out.old
  case pos =>
    have HX : Hid (¬ usableR d page ≠ 0) := fun h => h hv
    have hq : (usableR d page != 0) = false := by rw [hv]; rfl
    obtain ⟨hok, hdd, g0, g1⟩ := usable_ok hv
    have HOk := Lib.hid (ok_inv hok)
    obtain ⟨k, rfl⟩ := Int.eq_ofNat_of_zero_le g0
    have HKn : Hid (k < d.pages.length) := by show _ < _; omega
    clear hv hok hdd g0 g1
    by_cases hc1 : cut < 0
    case pos =>
      have HY := Lib.hid hc1
      go_wp2_with (first | ((with_reducible refine wpList_build_v 27 (.agg (dvCells nilS dvNil nilS nilS).toArray) ?_ ?_); (intro W; simp only [List.map_toArray, List.map_cons, List.map_nil]; exact build_dv0 W); simp only [Act.put, List.setIfInBounds_toArray, List.set_cons_zero, List.set_cons_succ]) | ((with_reducible refine wpList_store_ob 27 (.tmp 8) B1 (dvCells nilS dvNil nilS nilS) (dvCells nilS dvNil nilS nilS) 27 ?_ ?_ ?_ ?_ ?_ ?_ ?_); (exact rfl); (exact rfl); (exact (HS2.out).get 1 rfl); (exact info_dv); (exact rfl); (exact (oneCell_dv _ _ _ _ _ _ _ _ _ _)); skip))
      have HS3 : Hid (Hp w [.ob (w.heap.size) 27 (dvCells (.slice pa d.pages.length pc) d (.slice ua d.unread.length uc) (.slice fa d.faults.length fc)), .ob B1 27 (dvCells nilS dvNil nilS nilS)] (w3.setRow B1 (dvCells nilS dvNil nilS nilS).toArray)) := (HS2.out).row 1 rfl (dvCells nilS dvNil nilS nilS)
      clear HS2
      generalize (w3.setRow B1 (dvCells nilS dvNil nilS nilS).toArray) = w4 at *
      refine bodyPost_ret (results_ob_tmp Try.results27 _ _ B1 (dvCells nilS dvNil nilS nilS) 27 _ rfl (HS3.out.get 1 rfl) HUD.out rfl info_dv) rfl ?_
      exact DvPost.none (by unfold tearR; rw [if_neg HX.out, if_pos (.inl HY.out)]) HS3.out.old
    case neg =>
      by_cases hc2 : 256 < cut
      case pos =>
        have HY := Lib.hid hc2
        go_wp2_with (first | ((with_reducible refine wpList_build_v 27 (.agg (dvCells nilS dvNil nilS nilS).toArray) ?_ ?_); (intro W; simp only [List.map_toArray, List.map_cons, List.map_nil]; exact build_dv0 W); simp only [Act.put, List.setIfInBounds_toArray, List.set_cons_zero, List.set_cons_succ]) | ((with_reducible refine wpList_store_ob 27 (.tmp 8) B1 (dvCells nilS dvNil nilS nilS) (dvCells nilS dvNil nilS nilS) 27 ?_ ?_ ?_ ?_ ?_ ?_ ?_); (exact rfl); (exact rfl); (exact (HS2.out).get 1 rfl); (exact info_dv); (exact rfl); (exact (oneCell_dv _ _ _ _ _ _ _ _ _ _)); skip))
        have HS3 : Hid (Hp w [.ob (w.heap.size) 27 (dvCells (.slice pa d.pages.length pc) d (.slice ua d.unread.length uc) (.slice fa d.faults.length fc)), .ob B1 27 (dvCells nilS dvNil nilS nilS)] (w3.setRow B1 (dvCells nilS dvNil nilS nilS).toArray)) := (HS2.out).row 1 rfl (dvCells nilS dvNil nilS nilS)
        clear HS2
        generalize (w3.setRow B1 (dvCells nilS dvNil nilS nilS).toArray) = w4 at *
        refine bodyPost_ret (results_ob_tmp Try.results27 _ _ B1 (dvCells nilS dvNil nilS nilS) 27 _ rfl (HS3.out.get 1 rfl) HUD.out rfl info_dv) rfl ?_
        exact DvPost.none (by unfold tearR; rw [if_neg HX.out, if_pos (.inr HY.out)]) HS3.out.old
      case neg =>
        obtain ⟨t, rfl⟩ := Int.eq_ofNat_of_zero_le (show 0 ≤ cut by omega)
        have HT : Hid (t ≤ 256) := by show _ ≤ _; omega
        have HY : Hid (¬ ((t : Int) < 0 ∨ 256 < (t : Int))) := fun h => h.elim hc1 hc2
        have ht0 : (0 : Int) ≤ (t : Int) := by omega
        have ht1 : (t : Int) ≤ 256 := by omega
        clear hc1 hc2
        by_cases hz : s.size = 256
        case neg =>
          have HZ := Lib.hid hz
          have hqs : ((s.size : Int) != 256) = true := by rw [bne_iff_ne]; omega
          clear hz
          go_wp2_with (first | ((with_reducible refine wpList_build_v 27 (.agg (dvCells nilS dvNil nilS nilS).toArray) ?_ ?_); (intro W; simp only [List.map_toArray, List.map_cons, List.map_nil]; exact build_dv0 W); simp only [Act.put, List.setIfInBounds_toArray, List.set_cons_zero, List.set_cons_succ]) | ((with_reducible refine wpList_store_ob 27 (.tmp 8) B1 (dvCells nilS dvNil nilS nilS) (dvCells nilS dvNil nilS nilS) 27 ?_ ?_ ?_ ?_ ?_ ?_ ?_); (exact rfl); (exact rfl); (exact (HS2.out).get 1 rfl); (exact info_dv); (exact rfl); (exact (oneCell_dv _ _ _ _ _ _ _ _ _ _)); skip))
          have HS3 : Hid (Hp w [.ob (w.heap.size) 27 (dvCells (.slice pa d.pages.length pc) d (.slice ua d.unread.length uc) (.slice fa d.faults.length fc)), .ob B1 27 (dvCells nilS dvNil nilS nilS)] (w3.setRow B1 (dvCells nilS dvNil nilS nilS).toArray)) := (HS2.out).row 1 rfl (dvCells nilS dvNil nilS nilS)
          clear HS2
          generalize (w3.setRow B1 (dvCells nilS dvNil nilS nilS).toArray) = w4 at *
          refine bodyPost_ret (results_ob_tmp Try.results27 _ _ B1 (dvCells nilS dvNil nilS nilS) 27 _ rfl (HS3.out.get 1 rfl) HUD.out rfl info_dv) rfl ?_
          exact DvPost.none (by unfold tearR; rw [if_neg HX.out, if_neg HY.out, if_pos HZ.out]) HS3.out.old
        case pos =>
          have HZ : Hid (¬ s.size ≠ 256) := fun h => h hz
          have HSz := Lib.hid hz
          have hts : (t : Int) ≤ (s.size : Int) := by omega
          have hqs : ((s.size : Int) != 256) = false := by rw [hz]; rfl
          clear hz
          go_wp2_with (first | ((with_reducible refine wpList_load_ob 27 (.tmp 4) (w.heap.size) (dvCells (.slice pa d.pages.length pc) d (.slice ua d.unread.length uc) (.slice fa d.faults.length fc)) 27 HUD.out ?_ ?_ ?_ ?_ ?_); (exact rfl); (exact (HS2.out).get 0 rfl); (exact rfl); (exact info_dv); simp only [Act.put, List.setIfInBounds_toArray, List.set_cons_zero, List.set_cons_succ]))
          refine (HCp.out _ (HS2.out).old).mono ?_
          rintro e w20 ⟨v, rfl, p', u', f', rfl, hk⟩
          obtain ⟨a1, c1, rfl⟩ := own_slice (hk.own 0 rfl)
          obtain ⟨a2, c2, rfl⟩ := own_slice (hk.own 1 rfl)
          obtain ⟨a3, c3, rfl⟩ := own_slice (hk.own 2 rfl)
          have HS3 : Hid (Hp w [.ob (w.heap.size) 27 (dvCells (.slice pa d.pages.length pc) d (.slice ua d.unread.length uc) (.slice fa d.faults.length fc)), .ob B1 27 (dvCells nilS dvNil nilS nilS), .sl ((.slice a1 d.pages.length c1)) 9 1 (d.pages.length) (strRow d.pages), .sl ((.slice a2 d.unread.length c2)) 3 1 (d.unread.length) (intRow d.unread), .sl ((.slice a3 d.faults.length c3)) 29 6 (d.faults.length) (fltRow d.faults)] w20) := (HS2.out).join hk (three_sl (sl_plain _ _ _ _ _) (sl_plain _ _ _ _ _) (sl_plain _ _ _ _ _))
          clear HS2
          clear HCp hk
          go_wp2_with (first | ((with_reducible refine wpList_store_ob 27 (.tmp 4) (w.heap.size) (dvCells (.slice a1 d.pages.length c1) d (.slice a2 d.unread.length c2) (.slice a3 d.faults.length c3)) (dvCells (.slice pa d.pages.length pc) d (.slice ua d.unread.length uc) (.slice fa d.faults.length fc)) 27 ?_ ?_ ?_ ?_ ?_ ?_ ?_); (exact rfl); (exact rfl); (exact (HS3.out).get 0 rfl); (exact info_dv); (exact rfl); (exact (oneCell_dv _ _ _ _ _ _ _ _ _ _)); skip))
          have HS5 : Hid (Hp w [.ob w.heap.size 27 (dvCells (.slice a1 d.pages.length c1) d (.slice a2 d.unread.length c2) (.slice a3 d.faults.length c3)), .ob B1 27 (dvCells nilS dvNil nilS nilS), .sl (.slice a1 d.pages.length c1) 9 1 d.pages.length (strRow d.pages), .sl (.slice a2 d.unread.length c2) 3 1 d.unread.length (intRow d.unread), .sl (.slice a3 d.faults.length c3) 29 6 d.faults.length (fltRow d.faults)] (w20.setRow (w.heap.size) (dvCells (.slice a1 d.pages.length c1) d (.slice a2 d.unread.length c2) (.slice a3 d.faults.length c3)).toArray)) := (HS3.out).row 0 rfl (dvCells (.slice a1 d.pages.length c1) d (.slice a2 d.unread.length c2) (.slice a3 d.faults.length c3))
          clear HS3
          generalize w20.setRow (w.heap.size) (dvCells (.slice a1 d.pages.length c1) d (.slice a2 d.unread.length c2) (.slice a3 d.faults.length c3)).toArray = w5 at *
          have HS6 : Hid (Hp w (DvTh w.heap.size (.slice a1 d.pages.length c1) (.slice a2 d.unread.length c2) (.slice a3 d.faults.length c3) d [.ob B1 27 (dvCells nilS dvNil nilS nilS), .sl (.slice a3 d.faults.length c3) 29 6 d.faults.length (fltRow d.faults)]) w5) := HS5.out.pull [0, 2, 3, 1, 4] rfl (pull_nd HS5.out.nd [0, 2, 3, 1, 4] rfl (by decide))
          clear HS5
          have hput := put_any (s.extract 0 t) k HS6.out HKn.out HOk.out.1.all (by rw [ByteArray.size_extract]; have := HT.out; omega) (by have := HOk.out.1.few; omega) (by have := HOk.out.2.1; omega)
          rw [dput_place s k t HSz.out HT.out] at hput
          refine hput.mono ?_
          rintro e w12 ⟨rfl, u12, h12⟩
          have HFz : Hid ((placeR d k s t).faults = d.faults) := rfl
          have HRes : Hid (tearR d k s t = (placeR d k s t, 0)) := by
            show _ = _
            unfold tearR
            rw [if_neg HX.out, if_neg HY.out, if_neg HZ.out, Int.toNat_natCast]
          generalize placeR d k s t = dz at *
          have HY2 := Lib.hid h12
          clear hput h12 HS6
          obtain ⟨az, cz, rfl⟩ := own_slice (HY2.out.own 2 rfl)
          go_wp2_with (first | ((with_reducible refine wpList_load_ob 27 (.tmp 4) w.heap.size (dvCells (.slice a1 d.pages.length c1) dz (.slice az dz.unread.length cz) (.slice a3 d.faults.length c3)) 27 HUD.out ?_ ?_ ?_ ?_ ?_); (exact rfl); (exact HY2.out.get 0 rfl); (exact rfl); (exact info_dv); simp only [Act.put, List.setIfInBounds_toArray, List.set_cons_zero, List.set_cons_succ]) | ((with_reducible refine wpList_store_ob 27 (.tmp 8) B1 (dvCells (.slice a1 d.pages.length c1) dz (.slice az dz.unread.length cz) (.slice a3 d.faults.length c3)) (dvCells nilS dvNil nilS nilS) 27 ?_ ?_ ?_ ?_ ?_ ?_ ?_); (exact rfl); (exact rfl); (exact HY2.out.get 3 rfl); (exact info_dv); (exact rfl); (exact (oneCell_dv _ _ _ _ _ _ _ _ _ _)); skip))
          have HF : Hid (Hp w [.ob w.heap.size 27 (dvCells (.slice a1 d.pages.length c1) dz (.slice az dz.unread.length cz) (.slice a3 d.faults.length c3)), .sl (.slice a1 d.pages.length c1) 9 1 dz.pages.length (strRow dz.pages), .sl (.slice az dz.unread.length cz) 3 1 dz.unread.length (intRow dz.unread), .ob B1 27 (dvCells (.slice a1 d.pages.length c1) dz (.slice az dz.unread.length cz) (.slice a3 d.faults.length c3)), .sl (.slice a3 d.faults.length c3) 29 6 d.faults.length (fltRow d.faults)] (w12.setRow B1 (dvCells (.slice a1 d.pages.length c1) dz (.slice az dz.unread.length cz) (.slice a3 d.faults.length c3)).toArray)) := HY2.out.row 3 rfl (dvCells (.slice a1 d.pages.length c1) dz (.slice az dz.unread.length cz) (.slice a3 d.faults.length c3))
          clear HY2
          generalize w12.setRow B1 (dvCells (.slice a1 d.pages.length c1) dz (.slice az dz.unread.length cz) (.slice a3 d.faults.length c3)).toArray = w15 at *
          refine bodyPost_ret (results_ob_tmp Try.results27 _ _ B1 (dvCells (.slice a1 d.pages.length c1) dz (.slice az dz.unread.length cz) (.slice a3 d.faults.length c3)) 27 _ rfl (HF.out.get 3 rfl) HUD.out rfl info_dv) rfl ?_
          obtain ⟨R', hrd, hin, hnew⟩ := own_dv (d := dz) (HF.out.own 1 rfl) (HF.out.own 2 rfl) (by rw [HFz.out]; exact HF.out.own 4 rfl)
          rw [HRes.out]
          exact ⟨_, _, _, R', rfl, hrd, hin, fun r hr => .inl (hnew r hr), HF.out.old⟩
end Go.Proofs.Ytlmbnofkmmehoaa
/- the program's blanks -/
namespace Go.Proofs.Ytlmbnofkmmehoaa
open Go.RowKit
set_option maxRecDepth 20000
set_option linter.unusedSimpArgs false
set_option linter.unusedVariables false

set_option maxHeartbeats 4000000 in
theorem pblanks_k (n : Nat) (w : World) (h1 : 1 ≤ n) (hn : n ≤ 64) :
    Calls Try.prog 34 #[.int .i64 (n : Int)] w fun e w' => ∃ v, e = .returned v ∧ Below w.heap.size w w' ∧ w'.ownsRow w.heap.size 9 1 v n (strRow (List.replicate n blankPg)) := by
  have HUT : Hid (Try.prog.underlying 23 = some (.slice 9)) := Try.underlying23
  obtain ⟨L0, hmk0, hcv0⟩ := made256
  have hmk := hmk0 w
  have hcv := hcv0 w
  clear hmk0 hcv0
  obtain ⟨B, hB⟩ : ∃ B, blankPg = B := ⟨_, rfl⟩
  rw [hB] at hcv
  rw [hB]
  have HN : Hid (1 ≤ n ∧ n ≤ 64) := ⟨h1, hn⟩
  have h2 := ((Hp.start w).put 5 L0).put 9 [.string B]
  simp only [World.size_alloc, List.nil_append, List.cons_append] at h2
  have HS0 : Hid (Hp w [.ob w.heap.size 5 L0, .ob (w.heap.size + 1) 9 [.string B]] ((w.alloc (.cells L0.toArray 5)).alloc (.cells #[.string B] 9))) := h2
  have hcall := repeat_any (w.heap.size + 1) B n h1 hn _ (HS0.out.at 1 rfl 0 rfl) (HS0.out.lt 1 rfl rfl).2
  have hsz : ((w.alloc (.cells L0.toArray 5)).alloc (.cells #[.string B] 9)).heap.size = w.heap.size + 1 + 1 := by simp
  rw [hsz] at hcall
  have HCall := Lib.hid hcall
  clear h1 hn h2 hB hcall hsz
  go_enter Try.func34, Try.ntmps34
  go_wp2_with (first | ((with_reducible refine wpList_build_vals 23 1 elem_s HUT.out [.string B] ?_ ?_ ?_ ?_ ?_ ?_); (exact (by intro v hv; simp only [List.mem_cons, List.not_mem_nil, or_false] at hv; subst hv; rfl)); (exact Nat.succ_pos _); (simp only [List.length_cons, List.length_nil]; omega); (exact rfl); (simp only [List.map_toArray, List.map_cons, List.map_nil, List.zipIdx_cons, List.zipIdx_nil]; exact rfl); simp only [Act.put, List.setIfInBounds_toArray, List.set_cons_zero, List.set_cons_succ]))
  refine HCall.out.mono ?_
  rintro e w4 ⟨rfl, hg, hb⟩
  have HG := Lib.hid hg
  have HB4 : Hid (Below w.heap.size w w4) := HS0.out.old.trans (hb.mono (by omega))
  have HSz : Hid (w.heap.size ≤ w.heap.size + 1 + 1) := by show _ ≤ _; omega
  clear hg hb
  go_wp2_with fail
  go_ret
  refine ⟨_, rfl, HB4.out, ⟨by simp [strRow], .inr ⟨_, n, _, rfl, HSz.out, HG.out, Nat.le_refl _, by have := HN.out; unfold maxLen; omega, by simp, ?_⟩⟩⟩
  simp [strRow]
end Go.Proofs.Ytlmbnofkmmehoaa
/- the program's New -/
namespace Go.Proofs.Ytlmbnofkmmehoaa
open Go.RowKit
set_option maxRecDepth 20000
set_option linter.unusedSimpArgs false
set_option linter.unusedVariables false

set_option linter.unusedSimpArgs false in
set_option maxHeartbeats 4000000 in
theorem new_dv (n : Int) (w : World) : Calls Try.prog 13 #[.int .i64 n] w (DvPost w [] (newR n)) := by
  obtain ⟨fs, hud⟩ := under_dv
  have HUD := Lib.hid hud
  clear hud
  have HS0 : Hid (Hp w [] w) := Hp.start w
  have hb0 := build_dv0
  by_cases h1 : n < 1
  · have HX := Lib.hid h1
    go_enter Try.func13, Try.ntmps13
    go_wp2_with (first | ((with_reducible refine wpList_alloc_ob 27 (dvCells nilS dvNil nilS nilS) ?_ ?_); (exact alloc_dv); simp only [Act.put, List.setIfInBounds_toArray, List.set_cons_zero, List.set_cons_succ]) | ((with_reducible refine wpList_build_v 27 (.agg (dvCells nilS dvNil nilS nilS).toArray) ?_ ?_); (intro W; simp only [List.map_toArray, List.map_cons, List.map_nil]; exact build_dv0 W); simp only [Act.put, List.setIfInBounds_toArray, List.set_cons_zero, List.set_cons_succ]) | ((with_reducible refine wpList_store_ob 27 (.tmp 2) (w.heap.size) (dvCells nilS dvNil nilS nilS) (dvCells nilS dvNil nilS nilS) 27 ?_ ?_ ?_ ?_ ?_ ?_ ?_); (exact rfl); (exact rfl); (exact ((HS0.out).put 27 (dvCells nilS dvNil nilS nilS)).get 0 rfl); (exact info_dv); (exact rfl); (exact (oneCell_dv _ _ _ _ _ _ _ _ _ _)); skip))
    have HS1 : Hid (Hp w [.ob (w.heap.size) 27 (dvCells nilS dvNil nilS nilS)] ((w.alloc (.cells (dvCells nilS dvNil nilS nilS).toArray 27)).setRow (w.heap.size) (dvCells nilS dvNil nilS nilS).toArray)) := ((HS0.out).put 27 (dvCells nilS dvNil nilS nilS)).row 0 rfl (dvCells nilS dvNil nilS nilS)
    clear HS0
    generalize ((w.alloc (.cells (dvCells nilS dvNil nilS nilS).toArray 27)).setRow (w.heap.size) (dvCells nilS dvNil nilS nilS).toArray) = w3 at *
    refine bodyPost_ret (results_ob_tmp Try.results13 _ _ (w.heap.size) (dvCells nilS dvNil nilS nilS) 27 _ rfl (HS1.out.get 0 rfl) HUD.out rfl info_dv) rfl ?_
    exact DvPost.none (by unfold newR; rw [if_pos (by exact .inl HX.out)]) HS1.out.old
  by_cases h2 : 64 < n
  · have HX := Lib.hid h2
    go_enter Try.func13, Try.ntmps13
    go_wp2_with (first | ((with_reducible refine wpList_alloc_ob 27 (dvCells nilS dvNil nilS nilS) ?_ ?_); (exact alloc_dv); simp only [Act.put, List.setIfInBounds_toArray, List.set_cons_zero, List.set_cons_succ]) | ((with_reducible refine wpList_build_v 27 (.agg (dvCells nilS dvNil nilS nilS).toArray) ?_ ?_); (intro W; simp only [List.map_toArray, List.map_cons, List.map_nil]; exact build_dv0 W); simp only [Act.put, List.setIfInBounds_toArray, List.set_cons_zero, List.set_cons_succ]) | ((with_reducible refine wpList_store_ob 27 (.tmp 2) (w.heap.size) (dvCells nilS dvNil nilS nilS) (dvCells nilS dvNil nilS nilS) 27 ?_ ?_ ?_ ?_ ?_ ?_ ?_); (exact rfl); (exact rfl); (exact ((HS0.out).put 27 (dvCells nilS dvNil nilS nilS)).get 0 rfl); (exact info_dv); (exact rfl); (exact (oneCell_dv _ _ _ _ _ _ _ _ _ _)); skip))
    have HS1 : Hid (Hp w [.ob (w.heap.size) 27 (dvCells nilS dvNil nilS nilS)] ((w.alloc (.cells (dvCells nilS dvNil nilS nilS).toArray 27)).setRow (w.heap.size) (dvCells nilS dvNil nilS nilS).toArray)) := ((HS0.out).put 27 (dvCells nilS dvNil nilS nilS)).row 0 rfl (dvCells nilS dvNil nilS nilS)
    clear HS0
    generalize ((w.alloc (.cells (dvCells nilS dvNil nilS nilS).toArray 27)).setRow (w.heap.size) (dvCells nilS dvNil nilS nilS).toArray) = w3 at *
    refine bodyPost_ret (results_ob_tmp Try.results13 _ _ (w.heap.size) (dvCells nilS dvNil nilS nilS) 27 _ rfl (HS1.out.get 0 rfl) HUD.out rfl info_dv) rfl ?_
    exact DvPost.none (by unfold newR; rw [if_pos (by exact .inr HX.out)]) HS1.out.old
  · obtain ⟨k, rfl⟩ := Int.eq_ofNat_of_zero_le (show 0 ≤ n by omega)
    have HK : Hid (k ≤ 64) := by show _ ≤ _; omega
    have HK1 : Hid (1 ≤ k) := by show _ ≤ _; omega
    have HX : Hid (newR (k : Int) = (⟨List.replicate k blankPg, 0, [], false, []⟩, 0)) := by
      show _ = _
      unfold newR
      rw [if_neg (by omega), Int.toNat_natCast]
    go_enter Try.func13, Try.ntmps13
    go_wp2_with (first | ((with_reducible refine wpList_alloc_ob 27 (dvCells nilS dvNil nilS nilS) ?_ ?_); (exact alloc_dv); simp only [Act.put, List.setIfInBounds_toArray, List.set_cons_zero, List.set_cons_succ]))
    refine (pblanks_k k _ HK1.out HK.out).mono ?_
    rintro e w3 ⟨v, rfl, hb, ho⟩
    have HS1 : Hid (Hp w [.ob (w.heap.size) 27 (dvCells nilS dvNil nilS nilS), .sl v 9 1 (k) (strRow (List.replicate k blankPg))] w3) := ((HS0.out).put 27 (dvCells nilS dvNil nilS nilS)).addown hb ho
    clear hb ho
    clear HS0
    obtain ⟨R, hrd, _, _⟩ := own_reads (HS1.out.own 1 rfl)
    obtain ⟨a, c, rfl, _⟩ := hrd
    go_wp2_with (first | ((with_reducible refine wpList_build_v 27 (.agg (dvCells (.slice a k c) dvNil nilS nilS).toArray) ?_ ?_); (intro W; simp only [List.map_toArray, List.map_cons, List.map_nil]; exact build_dv1 _ _ _ W); simp only [Act.put, List.setIfInBounds_toArray, List.set_cons_zero, List.set_cons_succ]) | ((with_reducible refine wpList_store_ob 27 (.tmp 2) (w.heap.size) (dvCells (.slice a k c) dvNil nilS nilS) (dvCells nilS dvNil nilS nilS) 27 ?_ ?_ ?_ ?_ ?_ ?_ ?_); (exact rfl); (exact rfl); (exact (HS1.out).get 0 rfl); (exact info_dv); (exact rfl); (exact (oneCell_dv _ _ _ _ _ _ _ _ _ _)); skip))
    have HS2 : Hid (Hp w [.ob (w.heap.size) 27 (dvCells (.slice a k c) dvNil nilS nilS), .sl ((.slice a k c)) 9 1 (k) (strRow (List.replicate k blankPg))] (w3.setRow (w.heap.size) (dvCells (.slice a k c) dvNil nilS nilS).toArray)) := (HS1.out).row 0 rfl (dvCells (.slice a k c) dvNil nilS nilS)
    clear HS1
    generalize (w3.setRow (w.heap.size) (dvCells (.slice a k c) dvNil nilS nilS).toArray) = w4 at *
    refine bodyPost_ret (results_ob_tmp Try.results13 _ _ (w.heap.size) (dvCells (.slice a k c) dvNil nilS nilS) 27 _ rfl (HS2.out.get 0 rfl) HUD.out rfl info_dv) rfl ?_
    obtain ⟨R', hrd', hin', hnew'⟩ := own_reads (HS2.out.own 1 rfl)
    rw [HX.out]
    exact ⟨.slice a k c, nilS, nilS, R', rfl, ⟨by show SlRd _ 1 (List.replicate k blankPg).length _ R'; rw [List.length_replicate]; exact hrd', SlRd.nil _ _, SlRd.nil _ _⟩, hin', fun r hr => .inl (hnew' r hr).1, HS2.out.old⟩
end Go.Proofs.Ytlmbnofkmmehoaa
