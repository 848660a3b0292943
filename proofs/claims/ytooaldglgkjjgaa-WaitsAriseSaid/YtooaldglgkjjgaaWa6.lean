/- texts of a claim, one after the other: the program's Request (locks), the program's Would (waits), the example of chapter 8, reckoned, the example of chapter 9, reckoned, the sanity check of the laws of chapter 9, who waits is one of five: what the functions of chapter 8 do to that -/
import Derived.Test.YtooaldglgkjjgaaWa5
import Derived.Deep.CutBlock
import Derived.Test.YtooaldglgkjjgaaWa4
import Derived.Test.YtooaldglgkjjgaaWa1
/- the program's Request (locks) -/
namespace Go.Proofs.Ytooaldglgkjjgaa
open Go.RowKit
set_option maxRecDepth 20000
set_option linter.unusedSimpArgs false
set_option linter.unusedVariables false

theorem added_ins (t : Tb) (g : Gr) : addedR t g = ⟨t.held, insG t.wait (wplaceR t.held t.wait g) g⟩ := rfl
theorem settle_mode {t : Tb} (h : TbIn t) {g : Gr} (hg : g ∈ t.wait) : (modeG (settleR t).held g == g.mode) = decide (g.mode ≤ modeG (settleR t).held g) := by
  rcases settle_keeps h hg with h1 | h1
  · have h2 := ((settle_in h).wait.ok g h1).2
    have e1 : (modeG (settleR t).held g == g.mode) = false := by rw [beq_eq_false_iff_ne]; omega
    rw [e1, decide_eq_false (by omega)]
  · have e1 : (modeG (settleR t).held g == g.mode) = true := by rw [beq_iff_eq]; exact h1
    rw [e1, decide_eq_true (by omega)]
theorem mem_insG (l : List Gr) (i : Nat) (g : Gr) : g ∈ insG l i g := by unfold insG; simp
set_option maxHeartbeats 16000000 in
theorem prequest_any {h v : Value} {t : Tb} {R : List Rng} (g : Gr) (w : World) (ht : TbRd h v t R) (hR : RdIn w R) (hg : GoodTb t) (hk : GoodGr g) :
    Calls Try.prog 24 #[.agg (tbCells h v).toArray, .agg (grCells g).toArray] w (TbPost3 w R (requestR t g)) := by
  obtain ⟨a, cap, rfl, hnc, hcm⟩ := ht.1.shape
  obtain ⟨a2, cap2, rfl, hnc2, hcm2⟩ := ht.2.shape
  have HT := Lib.hid ht
  have HR := Lib.hid hR
  have HK := Lib.hid hk
  have HGo := Lib.hid hg
  have HUX := Lib.hid under_grs
  have HVa : Hid (∀ W, Below w.heap.size w W → Calls Try.prog 29 #[.agg (tbCells (.slice a t.held.length cap) (.slice a2 t.wait.length cap2)).toArray] W fun e w' => e = .returned (.bool (tbOkB t)) ∧ Below W.heap.size W w') := fun W hb => plkvalid_any W ht (hR.below hb) hg
  have HGr : Hid (∀ W, Calls Try.prog 43 #[.agg (grCells g).toArray] W fun e w' => e = .returned (.bool (grOkB g)) ∧ Below W.heap.size W w') := fun W => pgrant_any g W
  have HWa : Hid (tbOkB t = true → ∀ W, Below w.heap.size w W → Calls Try.prog 42 #[.agg (tbCells (.slice a t.held.length cap) (.slice a2 t.wait.length cap2)).toArray, .int .i64 g.tx] W fun e w' => e = .returned (.tuple #[.agg (grCells (waitR t g.tx).1).toArray, .bool (waitR t g.tx).2]) ∧ Below W.heap.size W w') := fun h W hb => by
    rw [waitR_of (tbOkB_iff.1 h)]
    exact pwaiting_any g.tx W ht (hR.below hb) hg
  have HMo : Hid (tbOkB t = true → ∀ W, Below w.heap.size w W → Calls Try.prog 44 #[.slice a t.held.length cap, .int .i64 g.tx, .agg (lkCells g.lock).toArray] W fun e w' => e = .returned (.int .i64 (modeG t.held g)) ∧ Below W.heap.size W w') := fun h W hb => pmode_any g.tx g.lock t.held _ R W (tbOkB_iff.1 h).tin.held.up ht.1 (hR.below hb) (by have := hg.few; omega)
  have HSz : Hid (∀ W, Calls Try.prog 45 #[.agg (tbCells (.slice a t.held.length cap) (.slice a2 t.wait.length cap2)).toArray] W fun e w' => e = .returned (.int .i64 ((t.held.length : Int) + (t.wait.length : Int))) ∧ Below W.heap.size W w') := fun W => size_any W ht hg
  have HTu : Hid (tbOkB t = true → ∀ W, Below w.heap.size w W → Calls Try.prog 48 #[.agg (tbCells (.slice a t.held.length cap) (.slice a2 t.wait.length cap2)).toArray, .agg (grCells g).toArray] W fun e w' => e = .returned (.int .i64 (wplaceR t.held t.wait g : Nat)) ∧ Below W.heap.size W w') := fun h W hb => turn_any g W ht (hR.below hb) hg hk (tbOkB_iff.1 h).tin.held
  have HCl : Hid (∀ W, Below w.heap.size w W → Calls Try.prog 47 #[.slice a2 t.wait.length cap2] W fun e w' => ∃ u, e = .returned u ∧ Below W.heap.size W w' ∧ w'.ownsRow W.heap.size 29 4 u t.wait.length (grRow t.wait)) := fun W hb => cloneG_any t.wait _ R W ht.2 (hR.below hb) (by have := hg.few; omega)
  have HGw := Lib.hid (waitR_good hg g.tx)
  have HLen : Hid (tbOkB t = true → t.held.length + t.wait.length ≤ 1024) := fun h => (tbOkB_iff.1 h).few
  have HAd : Hid (tbOkB t = true → grOkB g = true → (waitR t g.tx).2 = false → ¬ g.mode ≤ modeG t.held g → TbIn (addedR t g)) := fun h1 h2 h3 h4 => by
    have hok := tbOkB_iff.1 h1
    rw [waitR_of hok] at h3
    refine added_in hok (grOkB_iff.1 h2) (wfind_none ?_) (by omega)
    simpa using h3
  have HD : Hid (requestR t g = if tbOkB t = false then (tbNil, false, 17)
    else if grOkB g = false then (tbNil, false, 1)
    else if (waitR t g.tx).2 = true then (if grEqB (waitR t g.tx).1 g = true then (t, false, 0) else (tbNil, false, 15))
    else if g.mode ≤ modeG t.held g then (t, true, 0)
    else if t.held.length + t.wait.length = 1024 then (tbNil, false, 21)
    else (settleR (addedR t g), decide (g.mode ≤ modeG (settleR (addedR t g)).held g), 0)) := rfl
  clear ht hg hk
  have h1 := (((Hp.startrd w R hR).put 25 (tbCells (.slice a t.held.length cap) (.slice a2 t.wait.length cap2))).put 29 (grCells g)).put 25 (tbCells (.slice none 0 0) (.slice none 0 0))
  simp only [World.size_alloc, List.nil_append, List.cons_append] at h1
  have h2 := h1.pull [1, 2, 3, 0] (M := [.ob w.heap.size 25 (tbCells (.slice a t.held.length cap) (.slice a2 t.wait.length cap2)), .ob (w.heap.size + 1) 29 (grCells g), .ob (w.heap.size + 1 + 1) 25 (tbCells (.slice none 0 0) (.slice none 0 0)), .rd R]) rfl (pull_nd h1.nd [1, 2, 3, 0] rfl (by decide))
  have HS0 : Hid (Hp w [.ob w.heap.size 25 (tbCells (.slice a t.held.length cap) (.slice a2 t.wait.length cap2)), .ob (w.heap.size + 1) 29 (grCells g), .ob (w.heap.size + 1 + 1) 25 (tbCells (.slice none 0 0) (.slice none 0 0)), .rd R] (((w.alloc (.cells (tbCells (.slice a t.held.length cap) (.slice a2 t.wait.length cap2)).toArray 25)).alloc (.cells (grCells g).toArray 29)).alloc (.cells #[.slice none 0 0, .slice none 0 0] 25))) := h2
  clear h1 h2 hR
  obtain ⟨fsHUG, huHUG⟩ := under_gr
  have HUG := Lib.hid huHUG
  clear huHUG
  obtain ⟨fsHUK, huHUK⟩ := under_lk
  have HUK := Lib.hid huHUK
  clear huHUK
  obtain ⟨fsHUT, huHUT⟩ := under_tb
  have HUT := Lib.hid huHUT
  clear huHUT
  generalize tbOkB t = ok at *
  generalize grOkB g = gk at *
  generalize modeG t.held g = mo at *
  obtain ⟨wx, wb, hwx⟩ : ∃ wx wb, waitR t g.tx = (wx, wb) := ⟨_, _, rfl⟩
  rw [hwx] at HWa HGw HAd HD
  clear hwx
  simp only at HWa HGw HAd HD
  obtain ⟨rq, hrq⟩ : ∃ rq, requestR t g = rq := ⟨_, rfl⟩
  rw [hrq] at HD
  rw [hrq]
  clear hrq
  go_enter Try.func24, Try.ntmps24
  go_upto_region 1 with (fail)
  generalize (((w.alloc (.cells (tbCells (.slice a t.held.length cap) (.slice a2 t.wait.length cap2)).toArray 25)).alloc (.cells (grCells g).toArray 29)).alloc (.cells #[.slice none 0 0, .slice none 0 0] 25)) = w1 at *
  generalize w.heap.size + 1 + 1 = b4 at *
  generalize w.heap.size + 1 = b3 at *
  go_wp2_with (first | ((with_reducible refine wpList_load_ob 25 (.tmp 2) (w.heap.size) (tbCells (.slice a t.held.length cap) (.slice a2 t.wait.length cap2)) 25 HUT.out ?_ ?_ ?_ ?_ ?_); (exact rfl); (exact (HS0.out).get 0 rfl); (exact rfl); (exact info_tb); simp only [Act.put, List.setIfInBounds_toArray, List.set_cons_zero, List.set_cons_succ]))
  refine (HVa.out _ (HS0.out).old).mono ?_
  rintro e w41 ⟨rfl, hb⟩
  have HS41 : Hid (Hp w [.ob (w.heap.size) 25 (tbCells (.slice a t.held.length cap) (.slice a2 t.wait.length cap2)), .ob b3 29 (grCells g), .ob b4 25 (tbCells (.slice none 0 0) (.slice none 0 0)), .rd R] w41) := (HS0.out).calls hb
  clear hb
  clear HS0
  clear HVa
  cases ok
  · skip
    go_wp2_with (first | ((with_reducible refine wpList_build_v (d := some 12) 25 (.agg (tbCells (.slice none 0 0) (.slice none 0 0)).toArray) ?_ ?_); (intro W; simp only [List.map_toArray, List.map_cons, List.map_nil]; exact build_tb0 W); simp only [Act.put, List.setIfInBounds_toArray, List.set_cons_zero, List.set_cons_succ]) | ((with_reducible refine wpList_store_ob 25 (.tmp 4) b4 (tbCells (.slice none 0 0) (.slice none 0 0)) (tbCells (.slice none 0 0) (.slice none 0 0)) 25 ?_ ?_ ?_ ?_ ?_ ?_ ?_); (exact rfl); (exact rfl); (exact (HS41.out).get 2 rfl); (exact info_tb); (exact rfl); (exact (oneCell_tb _ _ _ _ _ _)); skip))
    have HS67 : Hid (Hp w [.ob (w.heap.size) 25 (tbCells (.slice a t.held.length cap) (.slice a2 t.wait.length cap2)), .ob b3 29 (grCells g), .ob b4 25 (tbCells (.slice none 0 0) (.slice none 0 0)), .rd R] (w41.setRow b4 (tbCells (.slice none 0 0) (.slice none 0 0)).toArray)) := (HS41.out).row 2 rfl (tbCells (.slice none 0 0) (.slice none 0 0))
    clear HS41
    generalize (w41.setRow b4 (tbCells (.slice none 0 0) (.slice none 0 0)).toArray) = w67 at *
    refine bodyPost_ret (results_ob_tmp2 Try.results24 _ _ b4 (tbCells (.slice none 0 0) (.slice none 0 0)) 25 _ rfl ((HS67.out).get 2 rfl) HUT.out rfl info_tb) rfl ?_
    exact TbPost3.none (by rw [HD.out]; rfl) (HS67.out).old
  have HLn : Hid (t.held.length + t.wait.length ≤ 1024) := Lib.hid (HLen.out (by first | trivial | rfl))
  have HWa1 := Lib.hid (HWa.out (by first | trivial | rfl))
  have HMo1 := Lib.hid (HMo.out (by first | trivial | rfl))
  have HTu1 := Lib.hid (HTu.out (by first | trivial | rfl))
  clear HWa HMo HTu HLen
  have g0 : w41.cell? ⟨b3, 0, none⟩ = some (.int .i64 g.tx) := HS41.out.at 1 rfl 0 rfl
  have g1 : w41.cell? ⟨b3, 1, none⟩ = some (.int .i64 g.page) := HS41.out.at 1 rfl 1 rfl
  have g2 : w41.cell? ⟨b3, 2, none⟩ = some (.int .i64 g.slot) := HS41.out.at 1 rfl 2 rfl
  have g3 : w41.cell? ⟨b3, 3, none⟩ = some (.int .i64 g.mode) := HS41.out.at 1 rfl 3 rfl
  go_wp2_with (first | ((with_reducible refine wpList_load_ob 25 (.tmp 2) (w.heap.size) (tbCells (.slice a t.held.length cap) (.slice a2 t.wait.length cap2)) 25 HUT.out ?_ ?_ ?_ ?_ ?_); (exact rfl); (exact (HS41.out).get 0 rfl); (exact rfl); (exact info_tb); simp only [Act.put, List.setIfInBounds_toArray, List.set_cons_zero, List.set_cons_succ]))
  refine (HWa1.out _ (HS41.out).old).mono ?_
  rintro e w87 ⟨rfl, hb⟩
  have HS87 : Hid (Hp w [.ob (w.heap.size) 25 (tbCells (.slice a t.held.length cap) (.slice a2 t.wait.length cap2)), .ob b3 29 (grCells g), .ob b4 25 (tbCells (.slice none 0 0) (.slice none 0 0)), .rd R] w87) := (HS41.out).calls hb
  clear hb
  clear HS41
  go_upto_region 4 with (first | ((with_reducible refine wpList_alloc_ob 29 (grCells grNil) ?_ ?_); (exact alloc_gr); simp only [Act.put, List.setIfInBounds_toArray, List.set_cons_zero, List.set_cons_succ]) | ((with_reducible refine wpList_store_ob 29 (.tmp 7) (w87.heap.size) (grCells wx) (grCells grNil) 29 ?_ ?_ ?_ ?_ ?_ ?_ ?_); (exact rfl); (exact rfl); (exact ((HS87.out).put 29 (grCells grNil)).get 4 rfl); (exact info_gr); (exact rfl); (exact (oneCell_gr _)); skip))
  have HS88 : Hid (Hp w [.ob (w.heap.size) 25 (tbCells (.slice a t.held.length cap) (.slice a2 t.wait.length cap2)), .ob b3 29 (grCells g), .ob b4 25 (tbCells (.slice none 0 0) (.slice none 0 0)), .rd R, .ob (w87.heap.size) 29 (grCells wx)] ((w87.alloc (.cells (grCells grNil).toArray 29)).setRow (w87.heap.size) (grCells wx).toArray)) := ((HS87.out).put 29 (grCells grNil)).row 4 rfl (grCells wx)
  clear g0 g1 g2 g3 HWa1
  clear HS87
  generalize ((w87.alloc (.cells (grCells grNil).toArray 29)).setRow (w87.heap.size) (grCells wx).toArray) = w88 at *
  generalize w87.heap.size = B87 at *
  go_wp2_with (first | ((with_reducible refine wpList_load_ob 29 (.tmp 3) b3 (grCells g) 29 HUG.out ?_ ?_ ?_ ?_ ?_); (exact rfl); (exact (HS88.out).get 1 rfl); (exact rfl); (exact info_gr); simp only [Act.put, List.setIfInBounds_toArray, List.set_cons_zero, List.set_cons_succ]))
  refine (HGr.out _).mono ?_
  rintro e w114 ⟨rfl, hb⟩
  have HS114 : Hid (Hp w [.ob (w.heap.size) 25 (tbCells (.slice a t.held.length cap) (.slice a2 t.wait.length cap2)), .ob b3 29 (grCells g), .ob b4 25 (tbCells (.slice none 0 0) (.slice none 0 0)), .rd R, .ob B87 29 (grCells wx)] w114) := (HS88.out).calls hb
  clear hb
  clear HS88
  clear HGr
  cases gk
  · skip
    go_wp2_with (first | ((with_reducible refine wpList_build_v (d := some 24) 25 (.agg (tbCells (.slice none 0 0) (.slice none 0 0)).toArray) ?_ ?_); (intro W; simp only [List.map_toArray, List.map_cons, List.map_nil]; exact build_tb0 W); simp only [Act.put, List.setIfInBounds_toArray, List.set_cons_zero, List.set_cons_succ]) | ((with_reducible refine wpList_store_ob 25 (.tmp 4) b4 (tbCells (.slice none 0 0) (.slice none 0 0)) (tbCells (.slice none 0 0) (.slice none 0 0)) 25 ?_ ?_ ?_ ?_ ?_ ?_ ?_); (exact rfl); (exact rfl); (exact (HS114.out).get 2 rfl); (exact info_tb); (exact rfl); (exact (oneCell_tb _ _ _ _ _ _)); skip))
    have HS140 : Hid (Hp w [.ob (w.heap.size) 25 (tbCells (.slice a t.held.length cap) (.slice a2 t.wait.length cap2)), .ob b3 29 (grCells g), .ob b4 25 (tbCells (.slice none 0 0) (.slice none 0 0)), .rd R, .ob B87 29 (grCells wx)] (w114.setRow b4 (tbCells (.slice none 0 0) (.slice none 0 0)).toArray)) := (HS114.out).row 2 rfl (tbCells (.slice none 0 0) (.slice none 0 0))
    clear HS114
    generalize (w114.setRow b4 (tbCells (.slice none 0 0) (.slice none 0 0)).toArray) = w140 at *
    refine bodyPost_ret (results_ob_tmp2 Try.results24 _ _ b4 (tbCells (.slice none 0 0) (.slice none 0 0)) 25 _ rfl ((HS140.out).get 2 rfl) HUT.out rfl info_tb) rfl ?_
    exact TbPost3.none (by rw [HD.out]; rfl) (HS140.out).old
  cases wb
  case true =>
    have hqe : ∀ W, Sem.run Try.prog (binOp .neq 29 (.agg (grCells wx).toArray) (.agg (grCells g).toArray)) W = .ok (.bool (!sameV wx g)) W := fun W => run_neq (equal_gr wx g HGw.out HK.out) W
    have hsm := grEq_same wx g
    simp only [grCells] at hqe
    have x0 : w114.cell? ⟨B87, 0, none⟩ = some (.int .i64 wx.tx) := HS114.out.at 4 rfl 0 rfl
    have x1 : w114.cell? ⟨B87, 1, none⟩ = some (.int .i64 wx.page) := HS114.out.at 4 rfl 1 rfl
    have x2 : w114.cell? ⟨B87, 2, none⟩ = some (.int .i64 wx.slot) := HS114.out.at 4 rfl 2 rfl
    have x3 : w114.cell? ⟨B87, 3, none⟩ = some (.int .i64 wx.mode) := HS114.out.at 4 rfl 3 rfl
    have g0 : w114.cell? ⟨b3, 0, none⟩ = some (.int .i64 g.tx) := HS114.out.at 1 rfl 0 rfl
    have g1 : w114.cell? ⟨b3, 1, none⟩ = some (.int .i64 g.page) := HS114.out.at 1 rfl 1 rfl
    have g2 : w114.cell? ⟨b3, 2, none⟩ = some (.int .i64 g.slot) := HS114.out.at 1 rfl 2 rfl
    have g3 : w114.cell? ⟨b3, 3, none⟩ = some (.int .i64 g.mode) := HS114.out.at 1 rfl 3 rfl
    cases hsv : sameV wx g
    · have HE : Hid (rq = (tbNil, false, 15)) := Lib.hid (by rw [hsv] at hsm; rw [HD.out, ← hsm]; simp)
      rw [hsv] at hqe
      clear hsv hsm
      go_upto_region 7 with (fail)
      clear x0 x1 x2 x3 g0 g1 g2 g3 hqe
      go_wp2_with (first | ((with_reducible refine wpList_build_v (d := some 32) 25 (.agg (tbCells (.slice none 0 0) (.slice none 0 0)).toArray) ?_ ?_); (intro W; simp only [List.map_toArray, List.map_cons, List.map_nil]; exact build_tb0 W); simp only [Act.put, List.setIfInBounds_toArray, List.set_cons_zero, List.set_cons_succ]) | ((with_reducible refine wpList_store_ob 25 (.tmp 4) b4 (tbCells (.slice none 0 0) (.slice none 0 0)) (tbCells (.slice none 0 0) (.slice none 0 0)) 25 ?_ ?_ ?_ ?_ ?_ ?_ ?_); (exact rfl); (exact rfl); (exact (HS114.out).get 2 rfl); (exact info_tb); (exact rfl); (exact (oneCell_tb _ _ _ _ _ _)); skip))
      have HS160 : Hid (Hp w [.ob (w.heap.size) 25 (tbCells (.slice a t.held.length cap) (.slice a2 t.wait.length cap2)), .ob b3 29 (grCells g), .ob b4 25 (tbCells (.slice none 0 0) (.slice none 0 0)), .rd R, .ob B87 29 (grCells wx)] (w114.setRow b4 (tbCells (.slice none 0 0) (.slice none 0 0)).toArray)) := (HS114.out).row 2 rfl (tbCells (.slice none 0 0) (.slice none 0 0))
      clear HS114
      generalize (w114.setRow b4 (tbCells (.slice none 0 0) (.slice none 0 0)).toArray) = w160 at *
      refine bodyPost_ret (results_ob_tmp2 Try.results24 _ _ b4 (tbCells (.slice none 0 0) (.slice none 0 0)) 25 _ rfl ((HS160.out).get 2 rfl) HUT.out rfl info_tb) rfl ?_
      exact TbPost3.none (by exact HE.out) (HS160.out).old
    · have HE : Hid (rq = (t, false, 0)) := Lib.hid (by rw [hsv] at hsm; rw [HD.out, ← hsm]; simp)
      rw [hsv] at hqe
      clear hsv hsm
      go_upto_region 9 with (fail)
      clear x0 x1 x2 x3 g0 g1 g2 g3 hqe
      go_wp2_with (first | ((with_reducible refine wpList_load_ob 25 (.tmp 2) (w.heap.size) (tbCells (.slice a t.held.length cap) (.slice a2 t.wait.length cap2)) 25 HUT.out ?_ ?_ ?_ ?_ ?_); (exact rfl); (exact (HS114.out).get 0 rfl); (exact rfl); (exact info_tb); simp only [Act.put, List.setIfInBounds_toArray, List.set_cons_zero, List.set_cons_succ]) | ((with_reducible refine wpList_store_ob 25 (.tmp 4) b4 (tbCells (.slice a t.held.length cap) (.slice a2 t.wait.length cap2)) (tbCells (.slice none 0 0) (.slice none 0 0)) 25 ?_ ?_ ?_ ?_ ?_ ?_ ?_); (exact rfl); (exact rfl); (exact (HS114.out).get 2 rfl); (exact info_tb); (exact rfl); (exact (oneCell_tb _ _ _ _ _ _)); skip))
      have HS180 : Hid (Hp w [.ob (w.heap.size) 25 (tbCells (.slice a t.held.length cap) (.slice a2 t.wait.length cap2)), .ob b3 29 (grCells g), .ob b4 25 (tbCells (.slice a t.held.length cap) (.slice a2 t.wait.length cap2)), .rd R, .ob B87 29 (grCells wx)] (w114.setRow b4 (tbCells (.slice a t.held.length cap) (.slice a2 t.wait.length cap2)).toArray)) := (HS114.out).row 2 rfl (tbCells (.slice a t.held.length cap) (.slice a2 t.wait.length cap2))
      clear HS114
      generalize (w114.setRow b4 (tbCells (.slice a t.held.length cap) (.slice a2 t.wait.length cap2)).toArray) = w180 at *
      refine bodyPost_ret (results_ob_tmp2 Try.results24 _ _ b4 (tbCells (.slice a t.held.length cap) (.slice a2 t.wait.length cap2)) 25 _ rfl ((HS180.out).get 2 rfl) HUT.out rfl info_tb) rfl ?_
      exact TbPost3.same (by exact HE.out) HT.out HR.out (HS180.out).old
  case false =>
    have HAd2 := Lib.hid (fun h => HAd.out (by first | trivial | rfl) (by first | trivial | rfl) (by first | trivial | rfl) h)
    have HD2 : Hid (rq = if g.mode ≤ mo then (t, true, 0) else if t.held.length + t.wait.length = 1024 then (tbNil, false, 21) else (settleR (addedR t g), decide (g.mode ≤ modeG (settleR (addedR t g)).held g), 0)) := Lib.hid (by rw [HD.out]; simp)
    clear HD HAd
    go_upto_region 10 with (fail)
    by_cases hmo : g.mode ≤ mo
    · have HE : Hid (rq = (t, true, 0)) := Lib.hid (by rw [HD2.out, if_pos hmo])
      have dm : decide (g.mode ≤ mo) = true := decide_eq_true hmo
      clear hmo HD2
      refine wp_region_held_drew (S := fun w' => w'.rangeAt w.heap.size 0 (tbCells (.slice a t.held.length cap) (.slice a2 t.wait.length cap2)) ∧ w'.rangeAt b3 0 (grCells g)) (by kernel_rfl) (⟨(fun j v hv => by rw [Nat.zero_add]; exact ((HS114.out).drew).at 0 rfl j hv), (fun j v hv => by rw [Nat.zero_add]; exact ((HS114.out).drew).at 1 rfl j hv)⟩) (fun hHeld => ?_)
      refine wpAnyH_take (i := 0) (oi := { dst := some 37, op := Op.fieldAddr 25 (Operand.tmp 2) 0, type := 0, pos := "locks.go:158", after := #[], guard := none }) (v := ?q801v) rfl (by kernel_rfl) (by kernel_rfl) (by kernel_rfl) (fun _ _ _ h => h) (Or.inl ⟨by rfl, ?q801h⟩) hHeld ?q801r
      case q801h => (intro wq hSw; clear hSw; go_simp; try with_reducible rfl)
      try simp only [Act.put, List.setIfInBounds_toArray, List.set_cons_zero, List.set_cons_succ]
      refine wpAnyH_take (i := 1) (oi := { dst := some 38, op := Op.load 23 (Operand.tmp 37), type := 23, pos := "locks.go:158", after := #[{ on := 0, ground := Ground.data }], guard := none }) (v := .slice a t.held.length cap) rfl (by kernel_rfl) (by kernel_rfl) (by kernel_rfl) (fun _ _ _ h => h) (Or.inl ⟨by rfl, ?q802h⟩) hHeld ?q802r
      case q802h => (intro wq hSw; have lq := (hSw.1) 0 (.slice a t.held.length cap) rfl; simp only [Nat.zero_add] at lq; clear hSw; go_simp; try with_reducible rfl)
      try simp only [Act.put, List.setIfInBounds_toArray, List.set_cons_zero, List.set_cons_succ]
      refine wpAnyH_take (i := 2) (oi := { dst := some 39, op := Op.fieldAddr 29 (Operand.tmp 3) 0, type := 0, pos := "locks.go:158", after := #[], guard := none }) (v := ?q803v) rfl (by kernel_rfl) (by kernel_rfl) (by kernel_rfl) (fun _ _ _ h => h) (Or.inl ⟨by rfl, ?q803h⟩) hHeld ?q803r
      case q803h => (intro wq hSw; clear hSw; go_simp; try with_reducible rfl)
      try simp only [Act.put, List.setIfInBounds_toArray, List.set_cons_zero, List.set_cons_succ]
      refine wpAnyH_take (i := 3) (oi := { dst := some 40, op := Op.load 3 (Operand.tmp 39), type := 3, pos := "locks.go:158", after := #[{ on := 2, ground := Ground.data }], guard := none }) (v := .int .i64 g.tx) rfl (by kernel_rfl) (by kernel_rfl) (by kernel_rfl) (fun _ _ _ h => h) (Or.inl ⟨by rfl, ?q804h⟩) hHeld ?q804r
      case q804h => (intro wq hSw; have lq := (hSw.2) 0 (.int .i64 g.tx) rfl; simp only [Nat.zero_add] at lq; clear hSw; go_simp; try with_reducible rfl)
      try simp only [Act.put, List.setIfInBounds_toArray, List.set_cons_zero, List.set_cons_succ]
      refine wpAnyH_take (i := 4) (oi := { dst := some 41, op := Op.fieldAddr 29 (Operand.tmp 3) 1, type := 0, pos := "locks.go:158", after := #[], guard := none }) (v := ?q805v) rfl (by kernel_rfl) (by kernel_rfl) (by kernel_rfl) (fun _ _ _ h => h) (Or.inl ⟨by rfl, ?q805h⟩) hHeld ?q805r
      case q805h => (intro wq hSw; clear hSw; go_simp; try with_reducible rfl)
      try simp only [Act.put, List.setIfInBounds_toArray, List.set_cons_zero, List.set_cons_succ]
      refine wpAnyH_take (i := 5) (oi := { dst := some 42, op := Op.load 27 (Operand.tmp 41), type := 27, pos := "locks.go:158", after := #[{ on := 4, ground := Ground.data }], guard := none }) rfl (by kernel_rfl) (by kernel_rfl) (by kernel_rfl) (fun _ _ _ h => h) (yieldsIf_load_mid (by rfl) 27 (.tmp 41) rfl b3 (1) rfl (lkCells g.lock) _ (fun _ h => range_part (h.2) (mid_lk g)) HUK.out rfl (info_lk)) hHeld ?_
      try simp only [Act.put, List.setIfInBounds_toArray, List.set_cons_zero, List.set_cons_succ]
      refine wpAnyH_take (i := 7) (oi := { dst := some 44, op := Op.fieldAddr 29 (Operand.tmp 3) 2, type := 0, pos := "locks.go:158", after := #[], guard := none }) (v := ?q807v) rfl (by kernel_rfl) (by kernel_rfl) (by kernel_rfl) (fun _ _ _ h => h) (Or.inl ⟨by rfl, ?q807h⟩) hHeld ?q807r
      case q807h => (intro wq hSw; clear hSw; go_simp; try with_reducible rfl)
      try simp only [Act.put, List.setIfInBounds_toArray, List.set_cons_zero, List.set_cons_succ]
      refine wpAnyH_take (i := 8) (oi := { dst := some 45, op := Op.load 3 (Operand.tmp 44), type := 3, pos := "locks.go:158", after := #[{ on := 7, ground := Ground.data }], guard := none }) (v := .int .i64 g.mode) rfl (by kernel_rfl) (by kernel_rfl) (by kernel_rfl) (fun _ _ _ h => h) (Or.inl ⟨by rfl, ?q808h⟩) hHeld ?q808r
      case q808h => (intro wq hSw; have lq := (hSw.2) 3 (.int .i64 g.mode) rfl; simp only [Nat.zero_add] at lq; clear hSw; go_simp; try with_reducible rfl)
      try simp only [Act.put, List.setIfInBounds_toArray, List.set_cons_zero, List.set_cons_succ]
      refine wpAnyH_ready (rs := [6]) (by kernel_rfl) (by simp) ?_
      refine AllReadyH.cons (o := { dst := some 43, op := Op.call { callee := Callee.value (Operand.func 44), args := #[Operand.tmp 38, Operand.tmp 40, Operand.tmp 42], argTypes := #[23, 3, 27] }, type := 3, pos := "locks.go:158", after := #[{ on := 1, ground := Ground.data }, { on := 3, ground := Ground.data }, { on := 5, ground := Ground.data }], guard := none }) rfl (fun K hK => ?_) (AllReadyH.nil)
      go_simp
      go_wp2_with (go_at_call 44; refine (HMo1.out _ ((HS114.out).drew).old).mono ?_; rintro e w200 ⟨rfl, hb⟩)
      have HS200 : Hid (Hp w [.ob (w.heap.size) 25 (tbCells (.slice a t.held.length cap) (.slice a2 t.wait.length cap2)), .ob b3 29 (grCells g), .ob b4 25 (tbCells (.slice none 0 0) (.slice none 0 0)), .rd R, .ob B87 29 (grCells wx)] w200) := ((HS114.out).drew).calls hb
      refine hK.out _ _ (⟨(fun j v hv => by rw [Nat.zero_add]; exact (HS200.out).at 0 rfl j hv), (fun j v hv => by rw [Nat.zero_add]; exact (HS200.out).at 1 rfl j hv)⟩) (fun hHeld => ?_)
      clear hK K hb
      try simp only [Act.put, List.setIfInBounds_toArray, List.set_cons_zero, List.set_cons_succ]
      refine wpAnyH_take (i := 9) (oi := { dst := some 46, op := Op.binOp BinOp.geq 3 (Operand.tmp 43) (Operand.tmp 45) 3, type := 4, pos := "locks.go:158", after := #[{ on := 6, ground := Ground.data }, { on := 8, ground := Ground.data }], guard := none }) (v := .bool true) rfl (by kernel_rfl) (by kernel_rfl) (by kernel_rfl) (fun _ _ _ h => h) (Or.inl ⟨by rfl, ?q809h⟩) hHeld ?q809r
      case q809h => (intro wq hSw; clear hSw; go_simp; try with_reducible rfl)
      try simp only [Act.put, List.setIfInBounds_toArray, List.set_cons_zero, List.set_cons_succ]
      refine wpAnyH_take (i := 10) (oi := { dst := some 36, op := Op.assign (Operand.tmp 46), type := 4, pos := "locks.go:158", after := #[{ on := 9, ground := Ground.data }, { on := 6, ground := Ground.chain }], guard := none }) (v := ?q810v) rfl (by kernel_rfl) (by kernel_rfl) (by kernel_rfl) (fun _ _ _ h => h) (Or.inl ⟨by rfl, ?q810h⟩) hHeld ?q810r
      case q810h => (intro wq hSw; clear hSw; go_simp; try with_reducible rfl)
      try simp only [Act.put, List.setIfInBounds_toArray, List.set_cons_zero, List.set_cons_succ]
      refine wpAnyH_done (by kernel_rfl) ?_ _
      clear hHeld
      go_upto_region 11 with (fail)
      go_wp2_with (first | ((with_reducible refine wpList_load_ob 25 (.tmp 2) (w.heap.size) (tbCells (.slice a t.held.length cap) (.slice a2 t.wait.length cap2)) 25 HUT.out ?_ ?_ ?_ ?_ ?_); (exact rfl); (exact (HS200.out).get 0 rfl); (exact rfl); (exact info_tb); simp only [Act.put, List.setIfInBounds_toArray, List.set_cons_zero, List.set_cons_succ]) | ((with_reducible refine wpList_store_ob 25 (.tmp 4) b4 (tbCells (.slice a t.held.length cap) (.slice a2 t.wait.length cap2)) (tbCells (.slice none 0 0) (.slice none 0 0)) 25 ?_ ?_ ?_ ?_ ?_ ?_ ?_); (exact rfl); (exact rfl); (exact (HS200.out).get 2 rfl); (exact info_tb); (exact rfl); (exact (oneCell_tb _ _ _ _ _ _)); skip))
      have HS226 : Hid (Hp w [.ob (w.heap.size) 25 (tbCells (.slice a t.held.length cap) (.slice a2 t.wait.length cap2)), .ob b3 29 (grCells g), .ob b4 25 (tbCells (.slice a t.held.length cap) (.slice a2 t.wait.length cap2)), .rd R, .ob B87 29 (grCells wx)] (w200.setRow b4 (tbCells (.slice a t.held.length cap) (.slice a2 t.wait.length cap2)).toArray)) := (HS200.out).row 2 rfl (tbCells (.slice a t.held.length cap) (.slice a2 t.wait.length cap2))
      clear HS200
      generalize (w200.setRow b4 (tbCells (.slice a t.held.length cap) (.slice a2 t.wait.length cap2)).toArray) = w226 at *
      refine bodyPost_ret (results_ob_tmp2 Try.results24 _ _ b4 (tbCells (.slice a t.held.length cap) (.slice a2 t.wait.length cap2)) 25 _ rfl ((HS226.out).get 2 rfl) HUT.out rfl info_tb) rfl ?_
      exact TbPost3.same (by exact HE.out) HT.out HR.out (HS226.out).old
    have HD3 : Hid (rq = if t.held.length + t.wait.length = 1024 then (tbNil, false, 21) else (settleR (addedR t g), decide (g.mode ≤ modeG (settleR (addedR t g)).held g), 0)) := Lib.hid (by rw [HD2.out, if_neg hmo])
    have HIn := Lib.hid (HAd2.out (by omega))
    have dm : decide (g.mode ≤ mo) = false := decide_eq_false hmo
    clear hmo HD2 HAd2
    refine wp_region_held_drew (S := fun w' => w'.rangeAt w.heap.size 0 (tbCells (.slice a t.held.length cap) (.slice a2 t.wait.length cap2)) ∧ w'.rangeAt b3 0 (grCells g)) (by kernel_rfl) (⟨(fun j v hv => by rw [Nat.zero_add]; exact ((HS114.out).drew).at 0 rfl j hv), (fun j v hv => by rw [Nat.zero_add]; exact ((HS114.out).drew).at 1 rfl j hv)⟩) (fun hHeld => ?_)
    refine wpAnyH_take (i := 0) (oi := { dst := some 37, op := Op.fieldAddr 25 (Operand.tmp 2) 0, type := 0, pos := "locks.go:158", after := #[], guard := none }) (v := ?q901v) rfl (by kernel_rfl) (by kernel_rfl) (by kernel_rfl) (fun _ _ _ h => h) (Or.inl ⟨by rfl, ?q901h⟩) hHeld ?q901r
    case q901h => (intro wq hSw; clear hSw; go_simp; try with_reducible rfl)
    try simp only [Act.put, List.setIfInBounds_toArray, List.set_cons_zero, List.set_cons_succ]
    refine wpAnyH_take (i := 1) (oi := { dst := some 38, op := Op.load 23 (Operand.tmp 37), type := 23, pos := "locks.go:158", after := #[{ on := 0, ground := Ground.data }], guard := none }) (v := .slice a t.held.length cap) rfl (by kernel_rfl) (by kernel_rfl) (by kernel_rfl) (fun _ _ _ h => h) (Or.inl ⟨by rfl, ?q902h⟩) hHeld ?q902r
    case q902h => (intro wq hSw; have lq := (hSw.1) 0 (.slice a t.held.length cap) rfl; simp only [Nat.zero_add] at lq; clear hSw; go_simp; try with_reducible rfl)
    try simp only [Act.put, List.setIfInBounds_toArray, List.set_cons_zero, List.set_cons_succ]
    refine wpAnyH_take (i := 2) (oi := { dst := some 39, op := Op.fieldAddr 29 (Operand.tmp 3) 0, type := 0, pos := "locks.go:158", after := #[], guard := none }) (v := ?q903v) rfl (by kernel_rfl) (by kernel_rfl) (by kernel_rfl) (fun _ _ _ h => h) (Or.inl ⟨by rfl, ?q903h⟩) hHeld ?q903r
    case q903h => (intro wq hSw; clear hSw; go_simp; try with_reducible rfl)
    try simp only [Act.put, List.setIfInBounds_toArray, List.set_cons_zero, List.set_cons_succ]
    refine wpAnyH_take (i := 3) (oi := { dst := some 40, op := Op.load 3 (Operand.tmp 39), type := 3, pos := "locks.go:158", after := #[{ on := 2, ground := Ground.data }], guard := none }) (v := .int .i64 g.tx) rfl (by kernel_rfl) (by kernel_rfl) (by kernel_rfl) (fun _ _ _ h => h) (Or.inl ⟨by rfl, ?q904h⟩) hHeld ?q904r
    case q904h => (intro wq hSw; have lq := (hSw.2) 0 (.int .i64 g.tx) rfl; simp only [Nat.zero_add] at lq; clear hSw; go_simp; try with_reducible rfl)
    try simp only [Act.put, List.setIfInBounds_toArray, List.set_cons_zero, List.set_cons_succ]
    refine wpAnyH_take (i := 4) (oi := { dst := some 41, op := Op.fieldAddr 29 (Operand.tmp 3) 1, type := 0, pos := "locks.go:158", after := #[], guard := none }) (v := ?q905v) rfl (by kernel_rfl) (by kernel_rfl) (by kernel_rfl) (fun _ _ _ h => h) (Or.inl ⟨by rfl, ?q905h⟩) hHeld ?q905r
    case q905h => (intro wq hSw; clear hSw; go_simp; try with_reducible rfl)
    try simp only [Act.put, List.setIfInBounds_toArray, List.set_cons_zero, List.set_cons_succ]
    refine wpAnyH_take (i := 5) (oi := { dst := some 42, op := Op.load 27 (Operand.tmp 41), type := 27, pos := "locks.go:158", after := #[{ on := 4, ground := Ground.data }], guard := none }) rfl (by kernel_rfl) (by kernel_rfl) (by kernel_rfl) (fun _ _ _ h => h) (yieldsIf_load_mid (by rfl) 27 (.tmp 41) rfl b3 (1) rfl (lkCells g.lock) _ (fun _ h => range_part (h.2) (mid_lk g)) HUK.out rfl (info_lk)) hHeld ?_
    try simp only [Act.put, List.setIfInBounds_toArray, List.set_cons_zero, List.set_cons_succ]
    refine wpAnyH_take (i := 7) (oi := { dst := some 44, op := Op.fieldAddr 29 (Operand.tmp 3) 2, type := 0, pos := "locks.go:158", after := #[], guard := none }) (v := ?q907v) rfl (by kernel_rfl) (by kernel_rfl) (by kernel_rfl) (fun _ _ _ h => h) (Or.inl ⟨by rfl, ?q907h⟩) hHeld ?q907r
    case q907h => (intro wq hSw; clear hSw; go_simp; try with_reducible rfl)
    try simp only [Act.put, List.setIfInBounds_toArray, List.set_cons_zero, List.set_cons_succ]
    refine wpAnyH_take (i := 8) (oi := { dst := some 45, op := Op.load 3 (Operand.tmp 44), type := 3, pos := "locks.go:158", after := #[{ on := 7, ground := Ground.data }], guard := none }) (v := .int .i64 g.mode) rfl (by kernel_rfl) (by kernel_rfl) (by kernel_rfl) (fun _ _ _ h => h) (Or.inl ⟨by rfl, ?q908h⟩) hHeld ?q908r
    case q908h => (intro wq hSw; have lq := (hSw.2) 3 (.int .i64 g.mode) rfl; simp only [Nat.zero_add] at lq; clear hSw; go_simp; try with_reducible rfl)
    try simp only [Act.put, List.setIfInBounds_toArray, List.set_cons_zero, List.set_cons_succ]
    refine wpAnyH_ready (rs := [6]) (by kernel_rfl) (by simp) ?_
    refine AllReadyH.cons (o := { dst := some 43, op := Op.call { callee := Callee.value (Operand.func 44), args := #[Operand.tmp 38, Operand.tmp 40, Operand.tmp 42], argTypes := #[23, 3, 27] }, type := 3, pos := "locks.go:158", after := #[{ on := 1, ground := Ground.data }, { on := 3, ground := Ground.data }, { on := 5, ground := Ground.data }], guard := none }) rfl (fun K hK => ?_) (AllReadyH.nil)
    go_simp
    go_wp2_with (go_at_call 44; refine (HMo1.out _ ((HS114.out).drew).old).mono ?_; rintro e w246 ⟨rfl, hb⟩)
    have HS246 : Hid (Hp w [.ob (w.heap.size) 25 (tbCells (.slice a t.held.length cap) (.slice a2 t.wait.length cap2)), .ob b3 29 (grCells g), .ob b4 25 (tbCells (.slice none 0 0) (.slice none 0 0)), .rd R, .ob B87 29 (grCells wx)] w246) := ((HS114.out).drew).calls hb
    refine hK.out _ _ (⟨(fun j v hv => by rw [Nat.zero_add]; exact (HS246.out).at 0 rfl j hv), (fun j v hv => by rw [Nat.zero_add]; exact (HS246.out).at 1 rfl j hv)⟩) (fun hHeld => ?_)
    clear hK K hb
    try simp only [Act.put, List.setIfInBounds_toArray, List.set_cons_zero, List.set_cons_succ]
    refine wpAnyH_take (i := 9) (oi := { dst := some 46, op := Op.binOp BinOp.geq 3 (Operand.tmp 43) (Operand.tmp 45) 3, type := 4, pos := "locks.go:158", after := #[{ on := 6, ground := Ground.data }, { on := 8, ground := Ground.data }], guard := none }) (v := .bool false) rfl (by kernel_rfl) (by kernel_rfl) (by kernel_rfl) (fun _ _ _ h => h) (Or.inl ⟨by rfl, ?q909h⟩) hHeld ?q909r
    case q909h => (intro wq hSw; clear hSw; go_simp; try with_reducible rfl)
    try simp only [Act.put, List.setIfInBounds_toArray, List.set_cons_zero, List.set_cons_succ]
    refine wpAnyH_take (i := 10) (oi := { dst := some 36, op := Op.assign (Operand.tmp 46), type := 4, pos := "locks.go:158", after := #[{ on := 9, ground := Ground.data }, { on := 6, ground := Ground.chain }], guard := none }) (v := ?q910v) rfl (by kernel_rfl) (by kernel_rfl) (by kernel_rfl) (fun _ _ _ h => h) (Or.inl ⟨by rfl, ?q910h⟩) hHeld ?q910r
    case q910h => (intro wq hSw; clear hSw; go_simp; try with_reducible rfl)
    try simp only [Act.put, List.setIfInBounds_toArray, List.set_cons_zero, List.set_cons_succ]
    refine wpAnyH_done (by kernel_rfl) ?_ _
    clear hHeld HMo1
    go_upto_region 12 with (fail)
    go_wp2_with (first | ((with_reducible refine wpList_load_ob 25 (.tmp 2) (w.heap.size) (tbCells (.slice a t.held.length cap) (.slice a2 t.wait.length cap2)) 25 HUT.out ?_ ?_ ?_ ?_ ?_); (exact rfl); (exact (HS246.out).get 0 rfl); (exact rfl); (exact info_tb); simp only [Act.put, List.setIfInBounds_toArray, List.set_cons_zero, List.set_cons_succ]))
    refine (HSz.out _).mono ?_
    rintro e w272 ⟨rfl, hb⟩
    have HS272 : Hid (Hp w [.ob (w.heap.size) 25 (tbCells (.slice a t.held.length cap) (.slice a2 t.wait.length cap2)), .ob b3 29 (grCells g), .ob b4 25 (tbCells (.slice none 0 0) (.slice none 0 0)), .rd R, .ob B87 29 (grCells wx)] w272) := (HS246.out).calls hb
    clear hb
    clear HS246
    clear HSz
    by_cases hfl : t.held.length + t.wait.length = 1024
    · have HE : Hid (rq = (tbNil, false, 21)) := Lib.hid (by rw [HD3.out, if_pos hfl])
      have e1 : ((t.held.length : Int) + (t.wait.length : Int) == 1024) = true := by simp; omega
      clear hfl HD3
      go_upto_region 13 with (fail)
      clear e1
      go_wp2_with (first | ((with_reducible refine wpList_build_v (d := some 52) 25 (.agg (tbCells (.slice none 0 0) (.slice none 0 0)).toArray) ?_ ?_); (intro W; simp only [List.map_toArray, List.map_cons, List.map_nil]; exact build_tb0 W); simp only [Act.put, List.setIfInBounds_toArray, List.set_cons_zero, List.set_cons_succ]) | ((with_reducible refine wpList_store_ob 25 (.tmp 4) b4 (tbCells (.slice none 0 0) (.slice none 0 0)) (tbCells (.slice none 0 0) (.slice none 0 0)) 25 ?_ ?_ ?_ ?_ ?_ ?_ ?_); (exact rfl); (exact rfl); (exact (HS272.out).get 2 rfl); (exact info_tb); (exact rfl); (exact (oneCell_tb _ _ _ _ _ _)); skip))
      have HS298 : Hid (Hp w [.ob (w.heap.size) 25 (tbCells (.slice a t.held.length cap) (.slice a2 t.wait.length cap2)), .ob b3 29 (grCells g), .ob b4 25 (tbCells (.slice none 0 0) (.slice none 0 0)), .rd R, .ob B87 29 (grCells wx)] (w272.setRow b4 (tbCells (.slice none 0 0) (.slice none 0 0)).toArray)) := (HS272.out).row 2 rfl (tbCells (.slice none 0 0) (.slice none 0 0))
      clear HS272
      generalize (w272.setRow b4 (tbCells (.slice none 0 0) (.slice none 0 0)).toArray) = w298 at *
      refine bodyPost_ret (results_ob_tmp2 Try.results24 _ _ b4 (tbCells (.slice none 0 0) (.slice none 0 0)) 25 _ rfl ((HS298.out).get 2 rfl) HUT.out rfl info_tb) rfl ?_
      exact TbPost3.none (by exact HE.out) (HS298.out).old
    have HE : Hid (rq = (settleR (addedR t g), decide (g.mode ≤ modeG (settleR (addedR t g)).held g), 0)) := Lib.hid (by rw [HD3.out, if_neg hfl])
    have e1 : ((t.held.length : Int) + (t.wait.length : Int) == 1024) = false := by simp; omega
    clear hfl HD3
    go_upto_region 14 with (fail)
    clear e1
    have hpl := place_le t.held t.wait g
    have HAe := Lib.hid (added_ins t g)
    obtain ⟨p, hp⟩ : ∃ p, wplaceR t.held t.wait g = p := ⟨_, rfl⟩
    rw [hp] at hpl HAe HTu1
    clear hp
    have HPl := Lib.hid hpl
    obtain ⟨l6, hl6⟩ : ∃ l6, insG t.wait p g = l6 := ⟨_, rfl⟩
    have HL6 := Lib.hid hl6
    rw [hl6] at HAe
    clear hl6 hpl
    go_cut [] (fun wz => ∃ (a6 : Option Addr) (c6 : Nat) (R7 : List Rng), GrRd (.slice a6 l6.length c6) l6 R7 ∧ (∀ r ∈ R7, w.heap.size ≤ r.1) ∧ Hp w [.ob (w.heap.size) 25 (tbCells (.slice a t.held.length cap) (.slice a6 l6.length c6)), .ob b3 29 (grCells g), .ob b4 25 (tbCells (.slice none 0 0) (.slice none 0 0)), .rd R, .rd R7] wz)
    case first =>
      refine wp_region_held_drew (S := fun w' => w'.rangeAt b3 0 (grCells g)) (by kernel_rfl) ((fun j v hv => by rw [Nat.zero_add]; exact ((HS272.out).drew).at 1 rfl j hv)) (fun hHeld => ?_)
      refine wpAnyH_take (i := 0) (oi := { dst := some 53, op := Op.fieldAddr 25 (Operand.tmp 2) 1, type := 0, pos := "locks.go:163", after := #[], guard := none }) (v := ?q1201v) rfl (by kernel_rfl) (by kernel_rfl) (by kernel_rfl) (fun _ _ _ h => h) (Or.inl ⟨by rfl, ?q1201h⟩) hHeld ?q1201r
      case q1201h => (intro wq hSw; clear hSw; go_simp; try with_reducible rfl)
      try simp only [Act.put, List.setIfInBounds_toArray, List.set_cons_zero, List.set_cons_succ]
      refine wpAnyH_take (i := 4) (oi := { dst := some 57, op := Op.load 29 (Operand.tmp 3), type := 29, pos := "locks.go:163", after := #[], guard := none }) rfl (by kernel_rfl) (by kernel_rfl) (by kernel_rfl) (fun _ _ _ h => h) (yieldsIf_load_mid (by rfl) 29 (.tmp 3) rfl b3 (0) rfl (grCells g) _ (fun _ h => h) HUG.out rfl (info_gr)) hHeld ?_
      try simp only [Act.put, List.setIfInBounds_toArray, List.set_cons_zero, List.set_cons_succ]
      refine wpAnyH_take (i := 6) (oi := { dst := some 59, op := Op.load 29 (Operand.tmp 3), type := 29, pos := "locks.go:163", after := #[], guard := none }) rfl (by kernel_rfl) (by kernel_rfl) (by kernel_rfl) (fun _ _ _ h => h) (yieldsIf_load_mid (by rfl) 29 (.tmp 3) rfl b3 (0) rfl (grCells g) _ (fun _ h => h) HUG.out rfl (info_gr)) hHeld ?_
      try simp only [Act.put, List.setIfInBounds_toArray, List.set_cons_zero, List.set_cons_succ]
      refine wpAnyH_ready (rs := [1, 3, 7]) (by kernel_rfl) (by simp) ?_
      refine AllReadyH.cons (o := { dst := some 54, op := Op.load 23 (Operand.tmp 53), type := 23, pos := "locks.go:163", after := #[{ on := 0, ground := Ground.data }], guard := none }) rfl (fun K hK => ?_) (AllReadyH.cons (o := { dst := some 56, op := Op.load 25 (Operand.tmp 2), type := 25, pos := "locks.go:163", after := #[], guard := none }) rfl (fun K hK => ?_) (AllReadyH.cons (o := { dst := some 60, op := Op.buildSlice 23 1 #[(0, Operand.tmp 59)], type := 23, pos := "locks.go:163", after := #[{ on := 6, ground := Ground.data }], guard := none }) rfl (fun K hK => ?_) (AllReadyH.nil)))
      · have q0 := ((HS272.out).drew).at 0 rfl 1 rfl
        go_simp
        clear q0
        have HS318 : Hid (Hp w [.ob (w.heap.size) 25 (tbCells (.slice a t.held.length cap) (.slice a2 t.wait.length cap2)), .ob b3 29 (grCells g), .ob b4 25 (tbCells (.slice none 0 0) (.slice none 0 0)), .rd R, .ob B87 29 (grCells wx)] (w272.drew)) := (HS272.out).drew
        refine hK.out _ _ ((fun j v hv => by rw [Nat.zero_add]; exact (HS318.out).at 1 rfl j hv)) (fun hHeld => ?_)
        clear hK K
        generalize w272.drew = w318 at *
        try simp only [Act.put, List.setIfInBounds_toArray, List.set_cons_zero, List.set_cons_succ]
        refine wpAnyH_ready (rs := [2, 3, 7]) (by kernel_rfl) (by simp) ?_
        refine AllReadyH.cons (o := { dst := some 55, op := Op.call { callee := Callee.value (Operand.func 47), args := #[Operand.tmp 54], argTypes := #[23] }, type := 23, pos := "locks.go:163", after := #[{ on := 1, ground := Ground.data }], guard := none }) rfl (fun K hK => ?_) (AllReadyH.cons (o := { dst := some 56, op := Op.load 25 (Operand.tmp 2), type := 25, pos := "locks.go:163", after := #[], guard := none }) rfl (fun K hK => ?_) (AllReadyH.cons (o := { dst := some 60, op := Op.buildSlice 23 1 #[(0, Operand.tmp 59)], type := 23, pos := "locks.go:163", after := #[{ on := 6, ground := Ground.data }], guard := none }) rfl (fun K hK => ?_) (AllReadyH.nil)))
        · go_simp
          go_wp2_with (go_at_call 47; refine (HCl.out _ (HS318.out).old).mono ?_; rintro e w319 ⟨u0, rfl, hb, ho⟩)
          have HS319 : Hid (Hp w [.ob (w.heap.size) 25 (tbCells (.slice a t.held.length cap) (.slice a2 t.wait.length cap2)), .ob b3 29 (grCells g), .ob b4 25 (tbCells (.slice none 0 0) (.slice none 0 0)), .rd R, .ob B87 29 (grCells wx), .sl u0 29 4 (t.wait.length) (grRow t.wait)] w319) := (HS318.out).addown hb ho
          refine hK.out _ _ ((fun j v hv => by rw [Nat.zero_add]; exact (HS319.out).at 1 rfl j hv)) (fun hHeld => ?_)
          clear hK K hb ho
          try simp only [Act.put, List.setIfInBounds_toArray, List.set_cons_zero, List.set_cons_succ]
          refine wpAnyH_ready (rs := [3, 7]) (by kernel_rfl) (by simp) ?_
          refine AllReadyH.cons (o := { dst := some 56, op := Op.load 25 (Operand.tmp 2), type := 25, pos := "locks.go:163", after := #[], guard := none }) rfl (fun K hK => ?_) (AllReadyH.cons (o := { dst := some 60, op := Op.buildSlice 23 1 #[(0, Operand.tmp 59)], type := 23, pos := "locks.go:163", after := #[{ on := 6, ground := Ground.data }], guard := none }) rfl (fun K hK => ?_) (AllReadyH.nil))
          · rw [if_pos (by rfl)]
            refine wp_load_whole 25 (.tmp 2) (w.heap.size) (tbCells (.slice a t.held.length cap) (.slice a2 t.wait.length cap2)) 25 HUT.out rfl rfl ((HS319.out).get 0 rfl) rfl (info_tb) ?_
            have HS320 : Hid (Hp w [.ob (w.heap.size) 25 (tbCells (.slice a t.held.length cap) (.slice a2 t.wait.length cap2)), .ob b3 29 (grCells g), .ob b4 25 (tbCells (.slice none 0 0) (.slice none 0 0)), .rd R, .ob B87 29 (grCells wx), .sl u0 29 4 (t.wait.length) (grRow t.wait)] w319) := HS319.out
            refine hK.out _ _ ((fun j v hv => by rw [Nat.zero_add]; exact (HS320.out).at 1 rfl j hv)) (fun hHeld => ?_)
            clear hK K
            try simp only [Act.put, List.setIfInBounds_toArray, List.set_cons_zero, List.set_cons_succ]
            refine wpAnyH_ready (rs := [5, 7]) (by kernel_rfl) (by simp) ?_
            refine AllReadyH.cons (o := { dst := some 58, op := Op.call { callee := Callee.value (Operand.func 48), args := #[Operand.tmp 56, Operand.tmp 57], argTypes := #[25, 29] }, type := 3, pos := "locks.go:163", after := #[{ on := 3, ground := Ground.data }, { on := 4, ground := Ground.data }, { on := 2, ground := Ground.chain }], guard := none }) rfl (fun K hK => ?_) (AllReadyH.cons (o := { dst := some 60, op := Op.buildSlice 23 1 #[(0, Operand.tmp 59)], type := 23, pos := "locks.go:163", after := #[{ on := 6, ground := Ground.data }], guard := none }) rfl (fun K hK => ?_) (AllReadyH.nil))
            · go_simp
              go_wp2_with (go_at_call 48; refine (HTu1.out _ (HS320.out).old).mono ?_; rintro e w320 ⟨rfl, hb⟩)
              have HS321 : Hid (Hp w [.ob (w.heap.size) 25 (tbCells (.slice a t.held.length cap) (.slice a2 t.wait.length cap2)), .ob b3 29 (grCells g), .ob b4 25 (tbCells (.slice none 0 0) (.slice none 0 0)), .rd R, .ob B87 29 (grCells wx), .sl u0 29 4 (t.wait.length) (grRow t.wait)] w320) := (HS320.out).calls hb
              refine hK.out _ _ ((fun j v hv => by rw [Nat.zero_add]; exact (HS321.out).at 1 rfl j hv)) (fun hHeld => ?_)
              clear hK K hb
              try simp only [Act.put, List.setIfInBounds_toArray, List.set_cons_zero, List.set_cons_succ]
              refine wpAnyH_ready (rs := [7]) (by kernel_rfl) (by simp) ?_
              refine AllReadyH.cons (o := { dst := some 60, op := Op.buildSlice 23 1 #[(0, Operand.tmp 59)], type := 23, pos := "locks.go:163", after := #[{ on := 6, ground := Ground.data }], guard := none }) rfl (fun K hK => ?_) (AllReadyH.nil)
              rw [if_pos (by rfl)]
              refine wp_build_obs rfl elem_gr HUX.out [grCells g] (List.forall_mem_cons.2 ⟨rfl, (fun _ h => absurd h List.not_mem_nil)⟩) (Nat.succ_pos _) (by simp only [List.length_cons, List.length_nil]; omega) rfl (by simp only [List.map_toArray, List.map_cons, List.map_nil, List.zipIdx_cons, List.zipIdx_nil]; exact rfl) ?_
              have HS322 : Hid (Hp w [.ob (w.heap.size) 25 (tbCells (.slice a t.held.length cap) (.slice a2 t.wait.length cap2)), .ob b3 29 (grCells g), .ob b4 25 (tbCells (.slice none 0 0) (.slice none 0 0)), .rd R, .ob B87 29 (grCells wx), .sl u0 29 4 (t.wait.length) (grRow t.wait), .ob (w320.heap.size) 29 (([grCells g] : List (List Value)).flatMap id)] (w320.alloc (.cells (([grCells g] : List (List Value)).flatMap id).toArray 29))) := (HS321.out).put 29 (([grCells g] : List (List Value)).flatMap id)
              refine hK.out _ _ ((fun j v hv => by rw [Nat.zero_add]; exact (HS322.out).at 1 rfl j hv)) (fun hHeld => ?_)
              clear hK K
              generalize (w320.alloc (.cells (([grCells g] : List (List Value)).flatMap id).toArray 29)) = w321 at *
              generalize w320.heap.size = B318 at *
              try simp only [Act.put, List.setIfInBounds_toArray, List.set_cons_zero, List.set_cons_succ]
              refine wpAnyH_ready (rs := [8]) (by kernel_rfl) (by simp) ?_
              refine AllReadyH.cons (o := { dst := some 61, op := Op.call { callee := Callee.value (Operand.func 46), args := #[Operand.tmp 55, Operand.tmp 58, Operand.tmp 60], argTypes := #[23, 3, 23] }, type := 23, pos := "locks.go:163", after := #[{ on := 2, ground := Ground.data }, { on := 5, ground := Ground.data }, { on := 7, ground := Ground.data }, { on := 5, ground := Ground.chain }], guard := none }) rfl (fun K hK => ?_) (AllReadyH.nil)
              go_simp
              go_wp2_with (go_at_call 46; refine (insert_own t.wait g p u0 w.heap.size B318 _ HPl.out ((HS322.out).own 5 rfl) ((HS322.out).get 6 rfl) (fun e => (HS322.out).ne 5 6 rfl rfl (by decide) e rfl rfl) (HS322.out).old.size (by have := HLn.out; omega)).mono ?_; rintro e w322 ⟨u6, rfl, ho6, hg6, hub6⟩)
              rw [HL6.out] at ho6
              have HS323 : Hid (Hp w [.ob (w.heap.size) 25 (tbCells (.slice a t.held.length cap) (.slice a2 t.wait.length cap2)), .ob b3 29 (grCells g), .ob b4 25 (tbCells (.slice none 0 0) (.slice none 0 0)), .rd R, .ob B87 29 (grCells wx), .sl u6 29 4 (l6.length) (grRow l6), .ob B318 29 (([grCells g] : List (List Value)).flatMap id)] w322) := (HS322.out).grown2 5 rfl ho6 hg6 (fun b hb => hub6.elim (fun h => .inl (h ▸ hb)) (fun h => .inr (by rw [h] at hb; exact Nat.le_of_eq (Option.some.inj hb))))
              refine hK.out _ _ ((fun j v hv => by rw [Nat.zero_add]; exact (HS323.out).at 1 rfl j hv)) (fun hHeld => ?_)
              clear hK K ho6 hg6 hub6
              try simp only [Act.put, List.setIfInBounds_toArray, List.set_cons_zero, List.set_cons_succ]
              refine wpAnyH_take (i := 9) (oi := { dst := some 62, op := Op.fieldAddr 25 (Operand.tmp 2) 1, type := 0, pos := "locks.go:163", after := #[{ on := 0, ground := Ground.phase }, { on := 1, ground := Ground.phase }, { on := 2, ground := Ground.phase }, { on := 3, ground := Ground.phase }, { on := 4, ground := Ground.phase }, { on := 5, ground := Ground.phase }, { on := 6, ground := Ground.phase }, { on := 7, ground := Ground.phase }, { on := 8, ground := Ground.phase }], guard := none }) (v := ?q1204v) rfl (by kernel_rfl) (by kernel_rfl) (by kernel_rfl) (fun _ _ _ h => h) (Or.inl ⟨by rfl, ?q1204h⟩) hHeld ?q1204r
              case q1204h => (intro wq hSw; clear hSw; go_simp; try with_reducible rfl)
              try simp only [Act.put, List.setIfInBounds_toArray, List.set_cons_zero, List.set_cons_succ]
              refine wpAnyH_ready (rs := [10]) (by kernel_rfl) (by simp) ?_
              refine AllReadyH.cons (o := { dst := none, op := Op.store 23 (Operand.tmp 62) (Operand.tmp 61), type := 0, pos := "locks.go:163", after := #[{ on := 9, ground := Ground.data }, { on := 8, ground := Ground.data }, { on := 8, ground := Ground.chain }, { on := 0, ground := Ground.phase }, { on := 1, ground := Ground.phase }, { on := 2, ground := Ground.phase }, { on := 3, ground := Ground.phase }, { on := 4, ground := Ground.phase }, { on := 5, ground := Ground.phase }, { on := 6, ground := Ground.phase }, { on := 7, ground := Ground.phase }, { on := 8, ground := Ground.phase }], guard := none }) rfl (fun K hK => ?_) (AllReadyH.nil)
              rw [if_pos (by rfl)]
              obtain ⟨a6, c6, rfl⟩ := own_slice ((HS323.out).own 5 rfl)
              have q5 := (HS323.out).at 0 rfl 1 rfl
              have f5 := (HS323.out).frozen 0 rfl 1
              go_simp
              clear q5 f5
              have HS324 : Hid (Hp w [.ob (w.heap.size) 25 (tbCells (.slice a t.held.length cap) (.slice a6 l6.length c6)), .ob b3 29 (grCells g), .ob b4 25 (tbCells (.slice none 0 0) (.slice none 0 0)), .rd R, .ob B87 29 (grCells wx), .sl ((.slice a6 l6.length c6)) 29 4 (l6.length) (grRow l6), .ob B318 29 (([grCells g] : List (List Value)).flatMap id)] (w322.setCell ⟨w.heap.size, 1, none⟩ (.slice a6 l6.length c6))) := (HS323.out).set 0 rfl 1 (.slice a6 l6.length c6)
              refine hK.out _ _ ((fun j v hv => by rw [Nat.zero_add]; exact (HS324.out).at 1 rfl j hv)) (fun hHeld => ?_)
              clear hK K
              generalize (w322.setCell ⟨w.heap.size, 1, none⟩ (.slice a6 l6.length c6)) = w323 at *
              try simp only [Act.put, List.setIfInBounds_toArray, List.set_cons_zero, List.set_cons_succ]
              refine wpAnyH_done (by kernel_rfl) ?_ _
              clear hHeld
              have HS325 : Hid (Hp w [.ob (w.heap.size) 25 (tbCells (.slice a t.held.length cap) (.slice a6 l6.length c6)), .ob b3 29 (grCells g), .ob b4 25 (tbCells (.slice none 0 0) (.slice none 0 0)), .rd R, .sl ((.slice a6 l6.length c6)) 29 4 (l6.length) (grRow l6)] w323) := HS324.out.pull [0, 1, 2, 3, 5] rfl (pull_nd HS324.out.nd [0, 1, 2, 3, 5] rfl (by decide))
              clear HS324
              obtain ⟨R7, h7, hn7, hs7⟩ := Hp.ownrd2 (A := [.ob (w.heap.size) 25 (tbCells (.slice a t.held.length cap) (.slice a6 l6.length c6)), .ob b3 29 (grCells g), .ob b4 25 (tbCells (.slice none 0 0) (.slice none 0 0)), .rd R]) HS325.out
              go_wp2_with fail
              go_meet
              exact ⟨a6, c6, R7, h7, hn7, hs7⟩
            · rw [if_pos (by rfl)]
              refine wp_build_obs rfl elem_gr HUX.out [grCells g] (List.forall_mem_cons.2 ⟨rfl, (fun _ h => absurd h List.not_mem_nil)⟩) (Nat.succ_pos _) (by simp only [List.length_cons, List.length_nil]; omega) rfl (by simp only [List.map_toArray, List.map_cons, List.map_nil, List.zipIdx_cons, List.zipIdx_nil]; exact rfl) ?_
              have HS321 : Hid (Hp w [.ob (w.heap.size) 25 (tbCells (.slice a t.held.length cap) (.slice a2 t.wait.length cap2)), .ob b3 29 (grCells g), .ob b4 25 (tbCells (.slice none 0 0) (.slice none 0 0)), .rd R, .ob B87 29 (grCells wx), .sl u0 29 4 (t.wait.length) (grRow t.wait), .ob (w319.heap.size) 29 (([grCells g] : List (List Value)).flatMap id)] (w319.alloc (.cells (([grCells g] : List (List Value)).flatMap id).toArray 29))) := (HS320.out).put 29 (([grCells g] : List (List Value)).flatMap id)
              refine hK.out _ _ ((fun j v hv => by rw [Nat.zero_add]; exact (HS321.out).at 1 rfl j hv)) (fun hHeld => ?_)
              clear hK K
              generalize (w319.alloc (.cells (([grCells g] : List (List Value)).flatMap id).toArray 29)) = w320 at *
              generalize w319.heap.size = B318 at *
              try simp only [Act.put, List.setIfInBounds_toArray, List.set_cons_zero, List.set_cons_succ]
              refine wpAnyH_ready (rs := [5]) (by kernel_rfl) (by simp) ?_
              refine AllReadyH.cons (o := { dst := some 58, op := Op.call { callee := Callee.value (Operand.func 48), args := #[Operand.tmp 56, Operand.tmp 57], argTypes := #[25, 29] }, type := 3, pos := "locks.go:163", after := #[{ on := 3, ground := Ground.data }, { on := 4, ground := Ground.data }, { on := 2, ground := Ground.chain }], guard := none }) rfl (fun K hK => ?_) (AllReadyH.nil)
              go_simp
              go_wp2_with (go_at_call 48; refine (HTu1.out _ (HS321.out).old).mono ?_; rintro e w321 ⟨rfl, hb⟩)
              have HS322 : Hid (Hp w [.ob (w.heap.size) 25 (tbCells (.slice a t.held.length cap) (.slice a2 t.wait.length cap2)), .ob b3 29 (grCells g), .ob b4 25 (tbCells (.slice none 0 0) (.slice none 0 0)), .rd R, .ob B87 29 (grCells wx), .sl u0 29 4 (t.wait.length) (grRow t.wait), .ob B318 29 (([grCells g] : List (List Value)).flatMap id)] w321) := (HS321.out).calls hb
              refine hK.out _ _ ((fun j v hv => by rw [Nat.zero_add]; exact (HS322.out).at 1 rfl j hv)) (fun hHeld => ?_)
              clear hK K hb
              try simp only [Act.put, List.setIfInBounds_toArray, List.set_cons_zero, List.set_cons_succ]
              refine wpAnyH_ready (rs := [8]) (by kernel_rfl) (by simp) ?_
              refine AllReadyH.cons (o := { dst := some 61, op := Op.call { callee := Callee.value (Operand.func 46), args := #[Operand.tmp 55, Operand.tmp 58, Operand.tmp 60], argTypes := #[23, 3, 23] }, type := 23, pos := "locks.go:163", after := #[{ on := 2, ground := Ground.data }, { on := 5, ground := Ground.data }, { on := 7, ground := Ground.data }, { on := 5, ground := Ground.chain }], guard := none }) rfl (fun K hK => ?_) (AllReadyH.nil)
              go_simp
              go_wp2_with (go_at_call 46; refine (insert_own t.wait g p u0 w.heap.size B318 _ HPl.out ((HS322.out).own 5 rfl) ((HS322.out).get 6 rfl) (fun e => (HS322.out).ne 5 6 rfl rfl (by decide) e rfl rfl) (HS322.out).old.size (by have := HLn.out; omega)).mono ?_; rintro e w322 ⟨u6, rfl, ho6, hg6, hub6⟩)
              rw [HL6.out] at ho6
              have HS323 : Hid (Hp w [.ob (w.heap.size) 25 (tbCells (.slice a t.held.length cap) (.slice a2 t.wait.length cap2)), .ob b3 29 (grCells g), .ob b4 25 (tbCells (.slice none 0 0) (.slice none 0 0)), .rd R, .ob B87 29 (grCells wx), .sl u6 29 4 (l6.length) (grRow l6), .ob B318 29 (([grCells g] : List (List Value)).flatMap id)] w322) := (HS322.out).grown2 5 rfl ho6 hg6 (fun b hb => hub6.elim (fun h => .inl (h ▸ hb)) (fun h => .inr (by rw [h] at hb; exact Nat.le_of_eq (Option.some.inj hb))))
              refine hK.out _ _ ((fun j v hv => by rw [Nat.zero_add]; exact (HS323.out).at 1 rfl j hv)) (fun hHeld => ?_)
              clear hK K ho6 hg6 hub6
              try simp only [Act.put, List.setIfInBounds_toArray, List.set_cons_zero, List.set_cons_succ]
              refine wpAnyH_take (i := 9) (oi := { dst := some 62, op := Op.fieldAddr 25 (Operand.tmp 2) 1, type := 0, pos := "locks.go:163", after := #[{ on := 0, ground := Ground.phase }, { on := 1, ground := Ground.phase }, { on := 2, ground := Ground.phase }, { on := 3, ground := Ground.phase }, { on := 4, ground := Ground.phase }, { on := 5, ground := Ground.phase }, { on := 6, ground := Ground.phase }, { on := 7, ground := Ground.phase }, { on := 8, ground := Ground.phase }], guard := none }) (v := ?q1205v) rfl (by kernel_rfl) (by kernel_rfl) (by kernel_rfl) (fun _ _ _ h => h) (Or.inl ⟨by rfl, ?q1205h⟩) hHeld ?q1205r
              case q1205h => (intro wq hSw; clear hSw; go_simp; try with_reducible rfl)
              try simp only [Act.put, List.setIfInBounds_toArray, List.set_cons_zero, List.set_cons_succ]
              refine wpAnyH_ready (rs := [10]) (by kernel_rfl) (by simp) ?_
              refine AllReadyH.cons (o := { dst := none, op := Op.store 23 (Operand.tmp 62) (Operand.tmp 61), type := 0, pos := "locks.go:163", after := #[{ on := 9, ground := Ground.data }, { on := 8, ground := Ground.data }, { on := 8, ground := Ground.chain }, { on := 0, ground := Ground.phase }, { on := 1, ground := Ground.phase }, { on := 2, ground := Ground.phase }, { on := 3, ground := Ground.phase }, { on := 4, ground := Ground.phase }, { on := 5, ground := Ground.phase }, { on := 6, ground := Ground.phase }, { on := 7, ground := Ground.phase }, { on := 8, ground := Ground.phase }], guard := none }) rfl (fun K hK => ?_) (AllReadyH.nil)
              rw [if_pos (by rfl)]
              obtain ⟨a6, c6, rfl⟩ := own_slice ((HS323.out).own 5 rfl)
              have q5 := (HS323.out).at 0 rfl 1 rfl
              have f5 := (HS323.out).frozen 0 rfl 1
              go_simp
              clear q5 f5
              have HS324 : Hid (Hp w [.ob (w.heap.size) 25 (tbCells (.slice a t.held.length cap) (.slice a6 l6.length c6)), .ob b3 29 (grCells g), .ob b4 25 (tbCells (.slice none 0 0) (.slice none 0 0)), .rd R, .ob B87 29 (grCells wx), .sl ((.slice a6 l6.length c6)) 29 4 (l6.length) (grRow l6), .ob B318 29 (([grCells g] : List (List Value)).flatMap id)] (w322.setCell ⟨w.heap.size, 1, none⟩ (.slice a6 l6.length c6))) := (HS323.out).set 0 rfl 1 (.slice a6 l6.length c6)
              refine hK.out _ _ ((fun j v hv => by rw [Nat.zero_add]; exact (HS324.out).at 1 rfl j hv)) (fun hHeld => ?_)
              clear hK K
              generalize (w322.setCell ⟨w.heap.size, 1, none⟩ (.slice a6 l6.length c6)) = w323 at *
              try simp only [Act.put, List.setIfInBounds_toArray, List.set_cons_zero, List.set_cons_succ]
              refine wpAnyH_done (by kernel_rfl) ?_ _
              clear hHeld
              have HS325 : Hid (Hp w [.ob (w.heap.size) 25 (tbCells (.slice a t.held.length cap) (.slice a6 l6.length c6)), .ob b3 29 (grCells g), .ob b4 25 (tbCells (.slice none 0 0) (.slice none 0 0)), .rd R, .sl ((.slice a6 l6.length c6)) 29 4 (l6.length) (grRow l6)] w323) := HS324.out.pull [0, 1, 2, 3, 5] rfl (pull_nd HS324.out.nd [0, 1, 2, 3, 5] rfl (by decide))
              clear HS324
              obtain ⟨R7, h7, hn7, hs7⟩ := Hp.ownrd2 (A := [.ob (w.heap.size) 25 (tbCells (.slice a t.held.length cap) (.slice a6 l6.length c6)), .ob b3 29 (grCells g), .ob b4 25 (tbCells (.slice none 0 0) (.slice none 0 0)), .rd R]) HS325.out
              go_wp2_with fail
              go_meet
              exact ⟨a6, c6, R7, h7, hn7, hs7⟩
          · rw [if_pos (by rfl)]
            refine wp_build_obs rfl elem_gr HUX.out [grCells g] (List.forall_mem_cons.2 ⟨rfl, (fun _ h => absurd h List.not_mem_nil)⟩) (Nat.succ_pos _) (by simp only [List.length_cons, List.length_nil]; omega) rfl (by simp only [List.map_toArray, List.map_cons, List.map_nil, List.zipIdx_cons, List.zipIdx_nil]; exact rfl) ?_
            have HS320 : Hid (Hp w [.ob (w.heap.size) 25 (tbCells (.slice a t.held.length cap) (.slice a2 t.wait.length cap2)), .ob b3 29 (grCells g), .ob b4 25 (tbCells (.slice none 0 0) (.slice none 0 0)), .rd R, .ob B87 29 (grCells wx), .sl u0 29 4 (t.wait.length) (grRow t.wait), .ob (w319.heap.size) 29 (([grCells g] : List (List Value)).flatMap id)] (w319.alloc (.cells (([grCells g] : List (List Value)).flatMap id).toArray 29))) := (HS319.out).put 29 (([grCells g] : List (List Value)).flatMap id)
            refine hK.out _ _ ((fun j v hv => by rw [Nat.zero_add]; exact (HS320.out).at 1 rfl j hv)) (fun hHeld => ?_)
            clear hK K
            generalize (w319.alloc (.cells (([grCells g] : List (List Value)).flatMap id).toArray 29)) = w320 at *
            generalize w319.heap.size = B318 at *
            try simp only [Act.put, List.setIfInBounds_toArray, List.set_cons_zero, List.set_cons_succ]
            refine wpAnyH_ready (rs := [3]) (by kernel_rfl) (by simp) ?_
            refine AllReadyH.cons (o := { dst := some 56, op := Op.load 25 (Operand.tmp 2), type := 25, pos := "locks.go:163", after := #[], guard := none }) rfl (fun K hK => ?_) (AllReadyH.nil)
            rw [if_pos (by rfl)]
            refine wp_load_whole 25 (.tmp 2) (w.heap.size) (tbCells (.slice a t.held.length cap) (.slice a2 t.wait.length cap2)) 25 HUT.out rfl rfl ((HS320.out).get 0 rfl) rfl (info_tb) ?_
            have HS321 : Hid (Hp w [.ob (w.heap.size) 25 (tbCells (.slice a t.held.length cap) (.slice a2 t.wait.length cap2)), .ob b3 29 (grCells g), .ob b4 25 (tbCells (.slice none 0 0) (.slice none 0 0)), .rd R, .ob B87 29 (grCells wx), .sl u0 29 4 (t.wait.length) (grRow t.wait), .ob B318 29 (([grCells g] : List (List Value)).flatMap id)] w320) := HS320.out
            refine hK.out _ _ ((fun j v hv => by rw [Nat.zero_add]; exact (HS321.out).at 1 rfl j hv)) (fun hHeld => ?_)
            clear hK K
            try simp only [Act.put, List.setIfInBounds_toArray, List.set_cons_zero, List.set_cons_succ]
            refine wpAnyH_ready (rs := [5]) (by kernel_rfl) (by simp) ?_
            refine AllReadyH.cons (o := { dst := some 58, op := Op.call { callee := Callee.value (Operand.func 48), args := #[Operand.tmp 56, Operand.tmp 57], argTypes := #[25, 29] }, type := 3, pos := "locks.go:163", after := #[{ on := 3, ground := Ground.data }, { on := 4, ground := Ground.data }, { on := 2, ground := Ground.chain }], guard := none }) rfl (fun K hK => ?_) (AllReadyH.nil)
            go_simp
            go_wp2_with (go_at_call 48; refine (HTu1.out _ (HS321.out).old).mono ?_; rintro e w321 ⟨rfl, hb⟩)
            have HS322 : Hid (Hp w [.ob (w.heap.size) 25 (tbCells (.slice a t.held.length cap) (.slice a2 t.wait.length cap2)), .ob b3 29 (grCells g), .ob b4 25 (tbCells (.slice none 0 0) (.slice none 0 0)), .rd R, .ob B87 29 (grCells wx), .sl u0 29 4 (t.wait.length) (grRow t.wait), .ob B318 29 (([grCells g] : List (List Value)).flatMap id)] w321) := (HS321.out).calls hb
            refine hK.out _ _ ((fun j v hv => by rw [Nat.zero_add]; exact (HS322.out).at 1 rfl j hv)) (fun hHeld => ?_)
            clear hK K hb
            try simp only [Act.put, List.setIfInBounds_toArray, List.set_cons_zero, List.set_cons_succ]
            refine wpAnyH_ready (rs := [8]) (by kernel_rfl) (by simp) ?_
            refine AllReadyH.cons (o := { dst := some 61, op := Op.call { callee := Callee.value (Operand.func 46), args := #[Operand.tmp 55, Operand.tmp 58, Operand.tmp 60], argTypes := #[23, 3, 23] }, type := 23, pos := "locks.go:163", after := #[{ on := 2, ground := Ground.data }, { on := 5, ground := Ground.data }, { on := 7, ground := Ground.data }, { on := 5, ground := Ground.chain }], guard := none }) rfl (fun K hK => ?_) (AllReadyH.nil)
            go_simp
            go_wp2_with (go_at_call 46; refine (insert_own t.wait g p u0 w.heap.size B318 _ HPl.out ((HS322.out).own 5 rfl) ((HS322.out).get 6 rfl) (fun e => (HS322.out).ne 5 6 rfl rfl (by decide) e rfl rfl) (HS322.out).old.size (by have := HLn.out; omega)).mono ?_; rintro e w322 ⟨u6, rfl, ho6, hg6, hub6⟩)
            rw [HL6.out] at ho6
            have HS323 : Hid (Hp w [.ob (w.heap.size) 25 (tbCells (.slice a t.held.length cap) (.slice a2 t.wait.length cap2)), .ob b3 29 (grCells g), .ob b4 25 (tbCells (.slice none 0 0) (.slice none 0 0)), .rd R, .ob B87 29 (grCells wx), .sl u6 29 4 (l6.length) (grRow l6), .ob B318 29 (([grCells g] : List (List Value)).flatMap id)] w322) := (HS322.out).grown2 5 rfl ho6 hg6 (fun b hb => hub6.elim (fun h => .inl (h ▸ hb)) (fun h => .inr (by rw [h] at hb; exact Nat.le_of_eq (Option.some.inj hb))))
            refine hK.out _ _ ((fun j v hv => by rw [Nat.zero_add]; exact (HS323.out).at 1 rfl j hv)) (fun hHeld => ?_)
            clear hK K ho6 hg6 hub6
            try simp only [Act.put, List.setIfInBounds_toArray, List.set_cons_zero, List.set_cons_succ]
            refine wpAnyH_take (i := 9) (oi := { dst := some 62, op := Op.fieldAddr 25 (Operand.tmp 2) 1, type := 0, pos := "locks.go:163", after := #[{ on := 0, ground := Ground.phase }, { on := 1, ground := Ground.phase }, { on := 2, ground := Ground.phase }, { on := 3, ground := Ground.phase }, { on := 4, ground := Ground.phase }, { on := 5, ground := Ground.phase }, { on := 6, ground := Ground.phase }, { on := 7, ground := Ground.phase }, { on := 8, ground := Ground.phase }], guard := none }) (v := ?q1206v) rfl (by kernel_rfl) (by kernel_rfl) (by kernel_rfl) (fun _ _ _ h => h) (Or.inl ⟨by rfl, ?q1206h⟩) hHeld ?q1206r
            case q1206h => (intro wq hSw; clear hSw; go_simp; try with_reducible rfl)
            try simp only [Act.put, List.setIfInBounds_toArray, List.set_cons_zero, List.set_cons_succ]
            refine wpAnyH_ready (rs := [10]) (by kernel_rfl) (by simp) ?_
            refine AllReadyH.cons (o := { dst := none, op := Op.store 23 (Operand.tmp 62) (Operand.tmp 61), type := 0, pos := "locks.go:163", after := #[{ on := 9, ground := Ground.data }, { on := 8, ground := Ground.data }, { on := 8, ground := Ground.chain }, { on := 0, ground := Ground.phase }, { on := 1, ground := Ground.phase }, { on := 2, ground := Ground.phase }, { on := 3, ground := Ground.phase }, { on := 4, ground := Ground.phase }, { on := 5, ground := Ground.phase }, { on := 6, ground := Ground.phase }, { on := 7, ground := Ground.phase }, { on := 8, ground := Ground.phase }], guard := none }) rfl (fun K hK => ?_) (AllReadyH.nil)
            rw [if_pos (by rfl)]
            obtain ⟨a6, c6, rfl⟩ := own_slice ((HS323.out).own 5 rfl)
            have q5 := (HS323.out).at 0 rfl 1 rfl
            have f5 := (HS323.out).frozen 0 rfl 1
            go_simp
            clear q5 f5
            have HS324 : Hid (Hp w [.ob (w.heap.size) 25 (tbCells (.slice a t.held.length cap) (.slice a6 l6.length c6)), .ob b3 29 (grCells g), .ob b4 25 (tbCells (.slice none 0 0) (.slice none 0 0)), .rd R, .ob B87 29 (grCells wx), .sl ((.slice a6 l6.length c6)) 29 4 (l6.length) (grRow l6), .ob B318 29 (([grCells g] : List (List Value)).flatMap id)] (w322.setCell ⟨w.heap.size, 1, none⟩ (.slice a6 l6.length c6))) := (HS323.out).set 0 rfl 1 (.slice a6 l6.length c6)
            refine hK.out _ _ ((fun j v hv => by rw [Nat.zero_add]; exact (HS324.out).at 1 rfl j hv)) (fun hHeld => ?_)
            clear hK K
            generalize (w322.setCell ⟨w.heap.size, 1, none⟩ (.slice a6 l6.length c6)) = w323 at *
            try simp only [Act.put, List.setIfInBounds_toArray, List.set_cons_zero, List.set_cons_succ]
            refine wpAnyH_done (by kernel_rfl) ?_ _
            clear hHeld
            have HS325 : Hid (Hp w [.ob (w.heap.size) 25 (tbCells (.slice a t.held.length cap) (.slice a6 l6.length c6)), .ob b3 29 (grCells g), .ob b4 25 (tbCells (.slice none 0 0) (.slice none 0 0)), .rd R, .sl ((.slice a6 l6.length c6)) 29 4 (l6.length) (grRow l6)] w323) := HS324.out.pull [0, 1, 2, 3, 5] rfl (pull_nd HS324.out.nd [0, 1, 2, 3, 5] rfl (by decide))
            clear HS324
            obtain ⟨R7, h7, hn7, hs7⟩ := Hp.ownrd2 (A := [.ob (w.heap.size) 25 (tbCells (.slice a t.held.length cap) (.slice a6 l6.length c6)), .ob b3 29 (grCells g), .ob b4 25 (tbCells (.slice none 0 0) (.slice none 0 0)), .rd R]) HS325.out
            go_wp2_with fail
            go_meet
            exact ⟨a6, c6, R7, h7, hn7, hs7⟩
        · rw [if_pos (by rfl)]
          refine wp_load_whole 25 (.tmp 2) (w.heap.size) (tbCells (.slice a t.held.length cap) (.slice a2 t.wait.length cap2)) 25 HUT.out rfl rfl ((HS318.out).get 0 rfl) rfl (info_tb) ?_
          have HS319 : Hid (Hp w [.ob (w.heap.size) 25 (tbCells (.slice a t.held.length cap) (.slice a2 t.wait.length cap2)), .ob b3 29 (grCells g), .ob b4 25 (tbCells (.slice none 0 0) (.slice none 0 0)), .rd R, .ob B87 29 (grCells wx)] w318) := HS318.out
          refine hK.out _ _ ((fun j v hv => by rw [Nat.zero_add]; exact (HS319.out).at 1 rfl j hv)) (fun hHeld => ?_)
          clear hK K
          try simp only [Act.put, List.setIfInBounds_toArray, List.set_cons_zero, List.set_cons_succ]
          refine wpAnyH_ready (rs := [2, 7]) (by kernel_rfl) (by simp) ?_
          refine AllReadyH.cons (o := { dst := some 55, op := Op.call { callee := Callee.value (Operand.func 47), args := #[Operand.tmp 54], argTypes := #[23] }, type := 23, pos := "locks.go:163", after := #[{ on := 1, ground := Ground.data }], guard := none }) rfl (fun K hK => ?_) (AllReadyH.cons (o := { dst := some 60, op := Op.buildSlice 23 1 #[(0, Operand.tmp 59)], type := 23, pos := "locks.go:163", after := #[{ on := 6, ground := Ground.data }], guard := none }) rfl (fun K hK => ?_) (AllReadyH.nil))
          · go_simp
            go_wp2_with (go_at_call 47; refine (HCl.out _ (HS319.out).old).mono ?_; rintro e w319 ⟨u0, rfl, hb, ho⟩)
            have HS320 : Hid (Hp w [.ob (w.heap.size) 25 (tbCells (.slice a t.held.length cap) (.slice a2 t.wait.length cap2)), .ob b3 29 (grCells g), .ob b4 25 (tbCells (.slice none 0 0) (.slice none 0 0)), .rd R, .ob B87 29 (grCells wx), .sl u0 29 4 (t.wait.length) (grRow t.wait)] w319) := (HS319.out).addown hb ho
            refine hK.out _ _ ((fun j v hv => by rw [Nat.zero_add]; exact (HS320.out).at 1 rfl j hv)) (fun hHeld => ?_)
            clear hK K hb ho
            try simp only [Act.put, List.setIfInBounds_toArray, List.set_cons_zero, List.set_cons_succ]
            refine wpAnyH_ready (rs := [5, 7]) (by kernel_rfl) (by simp) ?_
            refine AllReadyH.cons (o := { dst := some 58, op := Op.call { callee := Callee.value (Operand.func 48), args := #[Operand.tmp 56, Operand.tmp 57], argTypes := #[25, 29] }, type := 3, pos := "locks.go:163", after := #[{ on := 3, ground := Ground.data }, { on := 4, ground := Ground.data }, { on := 2, ground := Ground.chain }], guard := none }) rfl (fun K hK => ?_) (AllReadyH.cons (o := { dst := some 60, op := Op.buildSlice 23 1 #[(0, Operand.tmp 59)], type := 23, pos := "locks.go:163", after := #[{ on := 6, ground := Ground.data }], guard := none }) rfl (fun K hK => ?_) (AllReadyH.nil))
            · go_simp
              go_wp2_with (go_at_call 48; refine (HTu1.out _ (HS320.out).old).mono ?_; rintro e w320 ⟨rfl, hb⟩)
              have HS321 : Hid (Hp w [.ob (w.heap.size) 25 (tbCells (.slice a t.held.length cap) (.slice a2 t.wait.length cap2)), .ob b3 29 (grCells g), .ob b4 25 (tbCells (.slice none 0 0) (.slice none 0 0)), .rd R, .ob B87 29 (grCells wx), .sl u0 29 4 (t.wait.length) (grRow t.wait)] w320) := (HS320.out).calls hb
              refine hK.out _ _ ((fun j v hv => by rw [Nat.zero_add]; exact (HS321.out).at 1 rfl j hv)) (fun hHeld => ?_)
              clear hK K hb
              try simp only [Act.put, List.setIfInBounds_toArray, List.set_cons_zero, List.set_cons_succ]
              refine wpAnyH_ready (rs := [7]) (by kernel_rfl) (by simp) ?_
              refine AllReadyH.cons (o := { dst := some 60, op := Op.buildSlice 23 1 #[(0, Operand.tmp 59)], type := 23, pos := "locks.go:163", after := #[{ on := 6, ground := Ground.data }], guard := none }) rfl (fun K hK => ?_) (AllReadyH.nil)
              rw [if_pos (by rfl)]
              refine wp_build_obs rfl elem_gr HUX.out [grCells g] (List.forall_mem_cons.2 ⟨rfl, (fun _ h => absurd h List.not_mem_nil)⟩) (Nat.succ_pos _) (by simp only [List.length_cons, List.length_nil]; omega) rfl (by simp only [List.map_toArray, List.map_cons, List.map_nil, List.zipIdx_cons, List.zipIdx_nil]; exact rfl) ?_
              have HS322 : Hid (Hp w [.ob (w.heap.size) 25 (tbCells (.slice a t.held.length cap) (.slice a2 t.wait.length cap2)), .ob b3 29 (grCells g), .ob b4 25 (tbCells (.slice none 0 0) (.slice none 0 0)), .rd R, .ob B87 29 (grCells wx), .sl u0 29 4 (t.wait.length) (grRow t.wait), .ob (w320.heap.size) 29 (([grCells g] : List (List Value)).flatMap id)] (w320.alloc (.cells (([grCells g] : List (List Value)).flatMap id).toArray 29))) := (HS321.out).put 29 (([grCells g] : List (List Value)).flatMap id)
              refine hK.out _ _ ((fun j v hv => by rw [Nat.zero_add]; exact (HS322.out).at 1 rfl j hv)) (fun hHeld => ?_)
              clear hK K
              generalize (w320.alloc (.cells (([grCells g] : List (List Value)).flatMap id).toArray 29)) = w321 at *
              generalize w320.heap.size = B318 at *
              try simp only [Act.put, List.setIfInBounds_toArray, List.set_cons_zero, List.set_cons_succ]
              refine wpAnyH_ready (rs := [8]) (by kernel_rfl) (by simp) ?_
              refine AllReadyH.cons (o := { dst := some 61, op := Op.call { callee := Callee.value (Operand.func 46), args := #[Operand.tmp 55, Operand.tmp 58, Operand.tmp 60], argTypes := #[23, 3, 23] }, type := 23, pos := "locks.go:163", after := #[{ on := 2, ground := Ground.data }, { on := 5, ground := Ground.data }, { on := 7, ground := Ground.data }, { on := 5, ground := Ground.chain }], guard := none }) rfl (fun K hK => ?_) (AllReadyH.nil)
              go_simp
              go_wp2_with (go_at_call 46; refine (insert_own t.wait g p u0 w.heap.size B318 _ HPl.out ((HS322.out).own 5 rfl) ((HS322.out).get 6 rfl) (fun e => (HS322.out).ne 5 6 rfl rfl (by decide) e rfl rfl) (HS322.out).old.size (by have := HLn.out; omega)).mono ?_; rintro e w322 ⟨u6, rfl, ho6, hg6, hub6⟩)
              rw [HL6.out] at ho6
              have HS323 : Hid (Hp w [.ob (w.heap.size) 25 (tbCells (.slice a t.held.length cap) (.slice a2 t.wait.length cap2)), .ob b3 29 (grCells g), .ob b4 25 (tbCells (.slice none 0 0) (.slice none 0 0)), .rd R, .ob B87 29 (grCells wx), .sl u6 29 4 (l6.length) (grRow l6), .ob B318 29 (([grCells g] : List (List Value)).flatMap id)] w322) := (HS322.out).grown2 5 rfl ho6 hg6 (fun b hb => hub6.elim (fun h => .inl (h ▸ hb)) (fun h => .inr (by rw [h] at hb; exact Nat.le_of_eq (Option.some.inj hb))))
              refine hK.out _ _ ((fun j v hv => by rw [Nat.zero_add]; exact (HS323.out).at 1 rfl j hv)) (fun hHeld => ?_)
              clear hK K ho6 hg6 hub6
              try simp only [Act.put, List.setIfInBounds_toArray, List.set_cons_zero, List.set_cons_succ]
              refine wpAnyH_take (i := 9) (oi := { dst := some 62, op := Op.fieldAddr 25 (Operand.tmp 2) 1, type := 0, pos := "locks.go:163", after := #[{ on := 0, ground := Ground.phase }, { on := 1, ground := Ground.phase }, { on := 2, ground := Ground.phase }, { on := 3, ground := Ground.phase }, { on := 4, ground := Ground.phase }, { on := 5, ground := Ground.phase }, { on := 6, ground := Ground.phase }, { on := 7, ground := Ground.phase }, { on := 8, ground := Ground.phase }], guard := none }) (v := ?q1207v) rfl (by kernel_rfl) (by kernel_rfl) (by kernel_rfl) (fun _ _ _ h => h) (Or.inl ⟨by rfl, ?q1207h⟩) hHeld ?q1207r
              case q1207h => (intro wq hSw; clear hSw; go_simp; try with_reducible rfl)
              try simp only [Act.put, List.setIfInBounds_toArray, List.set_cons_zero, List.set_cons_succ]
              refine wpAnyH_ready (rs := [10]) (by kernel_rfl) (by simp) ?_
              refine AllReadyH.cons (o := { dst := none, op := Op.store 23 (Operand.tmp 62) (Operand.tmp 61), type := 0, pos := "locks.go:163", after := #[{ on := 9, ground := Ground.data }, { on := 8, ground := Ground.data }, { on := 8, ground := Ground.chain }, { on := 0, ground := Ground.phase }, { on := 1, ground := Ground.phase }, { on := 2, ground := Ground.phase }, { on := 3, ground := Ground.phase }, { on := 4, ground := Ground.phase }, { on := 5, ground := Ground.phase }, { on := 6, ground := Ground.phase }, { on := 7, ground := Ground.phase }, { on := 8, ground := Ground.phase }], guard := none }) rfl (fun K hK => ?_) (AllReadyH.nil)
              rw [if_pos (by rfl)]
              obtain ⟨a6, c6, rfl⟩ := own_slice ((HS323.out).own 5 rfl)
              have q5 := (HS323.out).at 0 rfl 1 rfl
              have f5 := (HS323.out).frozen 0 rfl 1
              go_simp
              clear q5 f5
              have HS324 : Hid (Hp w [.ob (w.heap.size) 25 (tbCells (.slice a t.held.length cap) (.slice a6 l6.length c6)), .ob b3 29 (grCells g), .ob b4 25 (tbCells (.slice none 0 0) (.slice none 0 0)), .rd R, .ob B87 29 (grCells wx), .sl ((.slice a6 l6.length c6)) 29 4 (l6.length) (grRow l6), .ob B318 29 (([grCells g] : List (List Value)).flatMap id)] (w322.setCell ⟨w.heap.size, 1, none⟩ (.slice a6 l6.length c6))) := (HS323.out).set 0 rfl 1 (.slice a6 l6.length c6)
              refine hK.out _ _ ((fun j v hv => by rw [Nat.zero_add]; exact (HS324.out).at 1 rfl j hv)) (fun hHeld => ?_)
              clear hK K
              generalize (w322.setCell ⟨w.heap.size, 1, none⟩ (.slice a6 l6.length c6)) = w323 at *
              try simp only [Act.put, List.setIfInBounds_toArray, List.set_cons_zero, List.set_cons_succ]
              refine wpAnyH_done (by kernel_rfl) ?_ _
              clear hHeld
              have HS325 : Hid (Hp w [.ob (w.heap.size) 25 (tbCells (.slice a t.held.length cap) (.slice a6 l6.length c6)), .ob b3 29 (grCells g), .ob b4 25 (tbCells (.slice none 0 0) (.slice none 0 0)), .rd R, .sl ((.slice a6 l6.length c6)) 29 4 (l6.length) (grRow l6)] w323) := HS324.out.pull [0, 1, 2, 3, 5] rfl (pull_nd HS324.out.nd [0, 1, 2, 3, 5] rfl (by decide))
              clear HS324
              obtain ⟨R7, h7, hn7, hs7⟩ := Hp.ownrd2 (A := [.ob (w.heap.size) 25 (tbCells (.slice a t.held.length cap) (.slice a6 l6.length c6)), .ob b3 29 (grCells g), .ob b4 25 (tbCells (.slice none 0 0) (.slice none 0 0)), .rd R]) HS325.out
              go_wp2_with fail
              go_meet
              exact ⟨a6, c6, R7, h7, hn7, hs7⟩
            · rw [if_pos (by rfl)]
              refine wp_build_obs rfl elem_gr HUX.out [grCells g] (List.forall_mem_cons.2 ⟨rfl, (fun _ h => absurd h List.not_mem_nil)⟩) (Nat.succ_pos _) (by simp only [List.length_cons, List.length_nil]; omega) rfl (by simp only [List.map_toArray, List.map_cons, List.map_nil, List.zipIdx_cons, List.zipIdx_nil]; exact rfl) ?_
              have HS321 : Hid (Hp w [.ob (w.heap.size) 25 (tbCells (.slice a t.held.length cap) (.slice a2 t.wait.length cap2)), .ob b3 29 (grCells g), .ob b4 25 (tbCells (.slice none 0 0) (.slice none 0 0)), .rd R, .ob B87 29 (grCells wx), .sl u0 29 4 (t.wait.length) (grRow t.wait), .ob (w319.heap.size) 29 (([grCells g] : List (List Value)).flatMap id)] (w319.alloc (.cells (([grCells g] : List (List Value)).flatMap id).toArray 29))) := (HS320.out).put 29 (([grCells g] : List (List Value)).flatMap id)
              refine hK.out _ _ ((fun j v hv => by rw [Nat.zero_add]; exact (HS321.out).at 1 rfl j hv)) (fun hHeld => ?_)
              clear hK K
              generalize (w319.alloc (.cells (([grCells g] : List (List Value)).flatMap id).toArray 29)) = w320 at *
              generalize w319.heap.size = B318 at *
              try simp only [Act.put, List.setIfInBounds_toArray, List.set_cons_zero, List.set_cons_succ]
              refine wpAnyH_ready (rs := [5]) (by kernel_rfl) (by simp) ?_
              refine AllReadyH.cons (o := { dst := some 58, op := Op.call { callee := Callee.value (Operand.func 48), args := #[Operand.tmp 56, Operand.tmp 57], argTypes := #[25, 29] }, type := 3, pos := "locks.go:163", after := #[{ on := 3, ground := Ground.data }, { on := 4, ground := Ground.data }, { on := 2, ground := Ground.chain }], guard := none }) rfl (fun K hK => ?_) (AllReadyH.nil)
              go_simp
              go_wp2_with (go_at_call 48; refine (HTu1.out _ (HS321.out).old).mono ?_; rintro e w321 ⟨rfl, hb⟩)
              have HS322 : Hid (Hp w [.ob (w.heap.size) 25 (tbCells (.slice a t.held.length cap) (.slice a2 t.wait.length cap2)), .ob b3 29 (grCells g), .ob b4 25 (tbCells (.slice none 0 0) (.slice none 0 0)), .rd R, .ob B87 29 (grCells wx), .sl u0 29 4 (t.wait.length) (grRow t.wait), .ob B318 29 (([grCells g] : List (List Value)).flatMap id)] w321) := (HS321.out).calls hb
              refine hK.out _ _ ((fun j v hv => by rw [Nat.zero_add]; exact (HS322.out).at 1 rfl j hv)) (fun hHeld => ?_)
              clear hK K hb
              try simp only [Act.put, List.setIfInBounds_toArray, List.set_cons_zero, List.set_cons_succ]
              refine wpAnyH_ready (rs := [8]) (by kernel_rfl) (by simp) ?_
              refine AllReadyH.cons (o := { dst := some 61, op := Op.call { callee := Callee.value (Operand.func 46), args := #[Operand.tmp 55, Operand.tmp 58, Operand.tmp 60], argTypes := #[23, 3, 23] }, type := 23, pos := "locks.go:163", after := #[{ on := 2, ground := Ground.data }, { on := 5, ground := Ground.data }, { on := 7, ground := Ground.data }, { on := 5, ground := Ground.chain }], guard := none }) rfl (fun K hK => ?_) (AllReadyH.nil)
              go_simp
              go_wp2_with (go_at_call 46; refine (insert_own t.wait g p u0 w.heap.size B318 _ HPl.out ((HS322.out).own 5 rfl) ((HS322.out).get 6 rfl) (fun e => (HS322.out).ne 5 6 rfl rfl (by decide) e rfl rfl) (HS322.out).old.size (by have := HLn.out; omega)).mono ?_; rintro e w322 ⟨u6, rfl, ho6, hg6, hub6⟩)
              rw [HL6.out] at ho6
              have HS323 : Hid (Hp w [.ob (w.heap.size) 25 (tbCells (.slice a t.held.length cap) (.slice a2 t.wait.length cap2)), .ob b3 29 (grCells g), .ob b4 25 (tbCells (.slice none 0 0) (.slice none 0 0)), .rd R, .ob B87 29 (grCells wx), .sl u6 29 4 (l6.length) (grRow l6), .ob B318 29 (([grCells g] : List (List Value)).flatMap id)] w322) := (HS322.out).grown2 5 rfl ho6 hg6 (fun b hb => hub6.elim (fun h => .inl (h ▸ hb)) (fun h => .inr (by rw [h] at hb; exact Nat.le_of_eq (Option.some.inj hb))))
              refine hK.out _ _ ((fun j v hv => by rw [Nat.zero_add]; exact (HS323.out).at 1 rfl j hv)) (fun hHeld => ?_)
              clear hK K ho6 hg6 hub6
              try simp only [Act.put, List.setIfInBounds_toArray, List.set_cons_zero, List.set_cons_succ]
              refine wpAnyH_take (i := 9) (oi := { dst := some 62, op := Op.fieldAddr 25 (Operand.tmp 2) 1, type := 0, pos := "locks.go:163", after := #[{ on := 0, ground := Ground.phase }, { on := 1, ground := Ground.phase }, { on := 2, ground := Ground.phase }, { on := 3, ground := Ground.phase }, { on := 4, ground := Ground.phase }, { on := 5, ground := Ground.phase }, { on := 6, ground := Ground.phase }, { on := 7, ground := Ground.phase }, { on := 8, ground := Ground.phase }], guard := none }) (v := ?q1208v) rfl (by kernel_rfl) (by kernel_rfl) (by kernel_rfl) (fun _ _ _ h => h) (Or.inl ⟨by rfl, ?q1208h⟩) hHeld ?q1208r
              case q1208h => (intro wq hSw; clear hSw; go_simp; try with_reducible rfl)
              try simp only [Act.put, List.setIfInBounds_toArray, List.set_cons_zero, List.set_cons_succ]
              refine wpAnyH_ready (rs := [10]) (by kernel_rfl) (by simp) ?_
              refine AllReadyH.cons (o := { dst := none, op := Op.store 23 (Operand.tmp 62) (Operand.tmp 61), type := 0, pos := "locks.go:163", after := #[{ on := 9, ground := Ground.data }, { on := 8, ground := Ground.data }, { on := 8, ground := Ground.chain }, { on := 0, ground := Ground.phase }, { on := 1, ground := Ground.phase }, { on := 2, ground := Ground.phase }, { on := 3, ground := Ground.phase }, { on := 4, ground := Ground.phase }, { on := 5, ground := Ground.phase }, { on := 6, ground := Ground.phase }, { on := 7, ground := Ground.phase }, { on := 8, ground := Ground.phase }], guard := none }) rfl (fun K hK => ?_) (AllReadyH.nil)
              rw [if_pos (by rfl)]
              obtain ⟨a6, c6, rfl⟩ := own_slice ((HS323.out).own 5 rfl)
              have q5 := (HS323.out).at 0 rfl 1 rfl
              have f5 := (HS323.out).frozen 0 rfl 1
              go_simp
              clear q5 f5
              have HS324 : Hid (Hp w [.ob (w.heap.size) 25 (tbCells (.slice a t.held.length cap) (.slice a6 l6.length c6)), .ob b3 29 (grCells g), .ob b4 25 (tbCells (.slice none 0 0) (.slice none 0 0)), .rd R, .ob B87 29 (grCells wx), .sl ((.slice a6 l6.length c6)) 29 4 (l6.length) (grRow l6), .ob B318 29 (([grCells g] : List (List Value)).flatMap id)] (w322.setCell ⟨w.heap.size, 1, none⟩ (.slice a6 l6.length c6))) := (HS323.out).set 0 rfl 1 (.slice a6 l6.length c6)
              refine hK.out _ _ ((fun j v hv => by rw [Nat.zero_add]; exact (HS324.out).at 1 rfl j hv)) (fun hHeld => ?_)
              clear hK K
              generalize (w322.setCell ⟨w.heap.size, 1, none⟩ (.slice a6 l6.length c6)) = w323 at *
              try simp only [Act.put, List.setIfInBounds_toArray, List.set_cons_zero, List.set_cons_succ]
              refine wpAnyH_done (by kernel_rfl) ?_ _
              clear hHeld
              have HS325 : Hid (Hp w [.ob (w.heap.size) 25 (tbCells (.slice a t.held.length cap) (.slice a6 l6.length c6)), .ob b3 29 (grCells g), .ob b4 25 (tbCells (.slice none 0 0) (.slice none 0 0)), .rd R, .sl ((.slice a6 l6.length c6)) 29 4 (l6.length) (grRow l6)] w323) := HS324.out.pull [0, 1, 2, 3, 5] rfl (pull_nd HS324.out.nd [0, 1, 2, 3, 5] rfl (by decide))
              clear HS324
              obtain ⟨R7, h7, hn7, hs7⟩ := Hp.ownrd2 (A := [.ob (w.heap.size) 25 (tbCells (.slice a t.held.length cap) (.slice a6 l6.length c6)), .ob b3 29 (grCells g), .ob b4 25 (tbCells (.slice none 0 0) (.slice none 0 0)), .rd R]) HS325.out
              go_wp2_with fail
              go_meet
              exact ⟨a6, c6, R7, h7, hn7, hs7⟩
          · rw [if_pos (by rfl)]
            refine wp_build_obs rfl elem_gr HUX.out [grCells g] (List.forall_mem_cons.2 ⟨rfl, (fun _ h => absurd h List.not_mem_nil)⟩) (Nat.succ_pos _) (by simp only [List.length_cons, List.length_nil]; omega) rfl (by simp only [List.map_toArray, List.map_cons, List.map_nil, List.zipIdx_cons, List.zipIdx_nil]; exact rfl) ?_
            have HS320 : Hid (Hp w [.ob (w.heap.size) 25 (tbCells (.slice a t.held.length cap) (.slice a2 t.wait.length cap2)), .ob b3 29 (grCells g), .ob b4 25 (tbCells (.slice none 0 0) (.slice none 0 0)), .rd R, .ob B87 29 (grCells wx), .ob (w318.heap.size) 29 (([grCells g] : List (List Value)).flatMap id)] (w318.alloc (.cells (([grCells g] : List (List Value)).flatMap id).toArray 29))) := (HS319.out).put 29 (([grCells g] : List (List Value)).flatMap id)
            refine hK.out _ _ ((fun j v hv => by rw [Nat.zero_add]; exact (HS320.out).at 1 rfl j hv)) (fun hHeld => ?_)
            clear hK K
            generalize (w318.alloc (.cells (([grCells g] : List (List Value)).flatMap id).toArray 29)) = w319 at *
            generalize w318.heap.size = B318 at *
            try simp only [Act.put, List.setIfInBounds_toArray, List.set_cons_zero, List.set_cons_succ]
            refine wpAnyH_ready (rs := [2]) (by kernel_rfl) (by simp) ?_
            refine AllReadyH.cons (o := { dst := some 55, op := Op.call { callee := Callee.value (Operand.func 47), args := #[Operand.tmp 54], argTypes := #[23] }, type := 23, pos := "locks.go:163", after := #[{ on := 1, ground := Ground.data }], guard := none }) rfl (fun K hK => ?_) (AllReadyH.nil)
            go_simp
            go_wp2_with (go_at_call 47; refine (HCl.out _ (HS320.out).old).mono ?_; rintro e w320 ⟨u0, rfl, hb, ho⟩)
            have HS321 : Hid (Hp w [.ob (w.heap.size) 25 (tbCells (.slice a t.held.length cap) (.slice a2 t.wait.length cap2)), .ob b3 29 (grCells g), .ob b4 25 (tbCells (.slice none 0 0) (.slice none 0 0)), .rd R, .ob B87 29 (grCells wx), .ob B318 29 (([grCells g] : List (List Value)).flatMap id), .sl u0 29 4 (t.wait.length) (grRow t.wait)] w320) := (HS320.out).addown hb ho
            refine hK.out _ _ ((fun j v hv => by rw [Nat.zero_add]; exact (HS321.out).at 1 rfl j hv)) (fun hHeld => ?_)
            clear hK K hb ho
            try simp only [Act.put, List.setIfInBounds_toArray, List.set_cons_zero, List.set_cons_succ]
            refine wpAnyH_ready (rs := [5]) (by kernel_rfl) (by simp) ?_
            refine AllReadyH.cons (o := { dst := some 58, op := Op.call { callee := Callee.value (Operand.func 48), args := #[Operand.tmp 56, Operand.tmp 57], argTypes := #[25, 29] }, type := 3, pos := "locks.go:163", after := #[{ on := 3, ground := Ground.data }, { on := 4, ground := Ground.data }, { on := 2, ground := Ground.chain }], guard := none }) rfl (fun K hK => ?_) (AllReadyH.nil)
            go_simp
            go_wp2_with (go_at_call 48; refine (HTu1.out _ (HS321.out).old).mono ?_; rintro e w321 ⟨rfl, hb⟩)
            have HS322 : Hid (Hp w [.ob (w.heap.size) 25 (tbCells (.slice a t.held.length cap) (.slice a2 t.wait.length cap2)), .ob b3 29 (grCells g), .ob b4 25 (tbCells (.slice none 0 0) (.slice none 0 0)), .rd R, .ob B87 29 (grCells wx), .ob B318 29 (([grCells g] : List (List Value)).flatMap id), .sl u0 29 4 (t.wait.length) (grRow t.wait)] w321) := (HS321.out).calls hb
            refine hK.out _ _ ((fun j v hv => by rw [Nat.zero_add]; exact (HS322.out).at 1 rfl j hv)) (fun hHeld => ?_)
            clear hK K hb
            try simp only [Act.put, List.setIfInBounds_toArray, List.set_cons_zero, List.set_cons_succ]
            refine wpAnyH_ready (rs := [8]) (by kernel_rfl) (by simp) ?_
            refine AllReadyH.cons (o := { dst := some 61, op := Op.call { callee := Callee.value (Operand.func 46), args := #[Operand.tmp 55, Operand.tmp 58, Operand.tmp 60], argTypes := #[23, 3, 23] }, type := 23, pos := "locks.go:163", after := #[{ on := 2, ground := Ground.data }, { on := 5, ground := Ground.data }, { on := 7, ground := Ground.data }, { on := 5, ground := Ground.chain }], guard := none }) rfl (fun K hK => ?_) (AllReadyH.nil)
            go_simp
            go_wp2_with (go_at_call 46; refine (insert_own t.wait g p u0 w.heap.size B318 _ HPl.out ((HS322.out).own 6 rfl) ((HS322.out).get 5 rfl) (fun e => (HS322.out).ne 6 5 rfl rfl (by decide) e rfl rfl) (HS322.out).old.size (by have := HLn.out; omega)).mono ?_; rintro e w322 ⟨u6, rfl, ho6, hg6, hub6⟩)
            rw [HL6.out] at ho6
            have HS323 : Hid (Hp w [.ob (w.heap.size) 25 (tbCells (.slice a t.held.length cap) (.slice a2 t.wait.length cap2)), .ob b3 29 (grCells g), .ob b4 25 (tbCells (.slice none 0 0) (.slice none 0 0)), .rd R, .ob B87 29 (grCells wx), .ob B318 29 (([grCells g] : List (List Value)).flatMap id), .sl u6 29 4 (l6.length) (grRow l6)] w322) := (HS322.out).grown2 6 rfl ho6 hg6 (fun b hb => hub6.elim (fun h => .inl (h ▸ hb)) (fun h => .inr (by rw [h] at hb; exact Nat.le_of_eq (Option.some.inj hb))))
            refine hK.out _ _ ((fun j v hv => by rw [Nat.zero_add]; exact (HS323.out).at 1 rfl j hv)) (fun hHeld => ?_)
            clear hK K ho6 hg6 hub6
            try simp only [Act.put, List.setIfInBounds_toArray, List.set_cons_zero, List.set_cons_succ]
            refine wpAnyH_take (i := 9) (oi := { dst := some 62, op := Op.fieldAddr 25 (Operand.tmp 2) 1, type := 0, pos := "locks.go:163", after := #[{ on := 0, ground := Ground.phase }, { on := 1, ground := Ground.phase }, { on := 2, ground := Ground.phase }, { on := 3, ground := Ground.phase }, { on := 4, ground := Ground.phase }, { on := 5, ground := Ground.phase }, { on := 6, ground := Ground.phase }, { on := 7, ground := Ground.phase }, { on := 8, ground := Ground.phase }], guard := none }) (v := ?q1209v) rfl (by kernel_rfl) (by kernel_rfl) (by kernel_rfl) (fun _ _ _ h => h) (Or.inl ⟨by rfl, ?q1209h⟩) hHeld ?q1209r
            case q1209h => (intro wq hSw; clear hSw; go_simp; try with_reducible rfl)
            try simp only [Act.put, List.setIfInBounds_toArray, List.set_cons_zero, List.set_cons_succ]
            refine wpAnyH_ready (rs := [10]) (by kernel_rfl) (by simp) ?_
            refine AllReadyH.cons (o := { dst := none, op := Op.store 23 (Operand.tmp 62) (Operand.tmp 61), type := 0, pos := "locks.go:163", after := #[{ on := 9, ground := Ground.data }, { on := 8, ground := Ground.data }, { on := 8, ground := Ground.chain }, { on := 0, ground := Ground.phase }, { on := 1, ground := Ground.phase }, { on := 2, ground := Ground.phase }, { on := 3, ground := Ground.phase }, { on := 4, ground := Ground.phase }, { on := 5, ground := Ground.phase }, { on := 6, ground := Ground.phase }, { on := 7, ground := Ground.phase }, { on := 8, ground := Ground.phase }], guard := none }) rfl (fun K hK => ?_) (AllReadyH.nil)
            rw [if_pos (by rfl)]
            obtain ⟨a6, c6, rfl⟩ := own_slice ((HS323.out).own 6 rfl)
            have q5 := (HS323.out).at 0 rfl 1 rfl
            have f5 := (HS323.out).frozen 0 rfl 1
            go_simp
            clear q5 f5
            have HS324 : Hid (Hp w [.ob (w.heap.size) 25 (tbCells (.slice a t.held.length cap) (.slice a6 l6.length c6)), .ob b3 29 (grCells g), .ob b4 25 (tbCells (.slice none 0 0) (.slice none 0 0)), .rd R, .ob B87 29 (grCells wx), .ob B318 29 (([grCells g] : List (List Value)).flatMap id), .sl ((.slice a6 l6.length c6)) 29 4 (l6.length) (grRow l6)] (w322.setCell ⟨w.heap.size, 1, none⟩ (.slice a6 l6.length c6))) := (HS323.out).set 0 rfl 1 (.slice a6 l6.length c6)
            refine hK.out _ _ ((fun j v hv => by rw [Nat.zero_add]; exact (HS324.out).at 1 rfl j hv)) (fun hHeld => ?_)
            clear hK K
            generalize (w322.setCell ⟨w.heap.size, 1, none⟩ (.slice a6 l6.length c6)) = w323 at *
            try simp only [Act.put, List.setIfInBounds_toArray, List.set_cons_zero, List.set_cons_succ]
            refine wpAnyH_done (by kernel_rfl) ?_ _
            clear hHeld
            have HS325 : Hid (Hp w [.ob (w.heap.size) 25 (tbCells (.slice a t.held.length cap) (.slice a6 l6.length c6)), .ob b3 29 (grCells g), .ob b4 25 (tbCells (.slice none 0 0) (.slice none 0 0)), .rd R, .sl ((.slice a6 l6.length c6)) 29 4 (l6.length) (grRow l6)] w323) := HS324.out.pull [0, 1, 2, 3, 6] rfl (pull_nd HS324.out.nd [0, 1, 2, 3, 6] rfl (by decide))
            clear HS324
            obtain ⟨R7, h7, hn7, hs7⟩ := Hp.ownrd2 (A := [.ob (w.heap.size) 25 (tbCells (.slice a t.held.length cap) (.slice a6 l6.length c6)), .ob b3 29 (grCells g), .ob b4 25 (tbCells (.slice none 0 0) (.slice none 0 0)), .rd R]) HS325.out
            go_wp2_with fail
            go_meet
            exact ⟨a6, c6, R7, h7, hn7, hs7⟩
        · rw [if_pos (by rfl)]
          refine wp_build_obs rfl elem_gr HUX.out [grCells g] (List.forall_mem_cons.2 ⟨rfl, (fun _ h => absurd h List.not_mem_nil)⟩) (Nat.succ_pos _) (by simp only [List.length_cons, List.length_nil]; omega) rfl (by simp only [List.map_toArray, List.map_cons, List.map_nil, List.zipIdx_cons, List.zipIdx_nil]; exact rfl) ?_
          have HS319 : Hid (Hp w [.ob (w.heap.size) 25 (tbCells (.slice a t.held.length cap) (.slice a2 t.wait.length cap2)), .ob b3 29 (grCells g), .ob b4 25 (tbCells (.slice none 0 0) (.slice none 0 0)), .rd R, .ob B87 29 (grCells wx), .ob (w318.heap.size) 29 (([grCells g] : List (List Value)).flatMap id)] (w318.alloc (.cells (([grCells g] : List (List Value)).flatMap id).toArray 29))) := (HS318.out).put 29 (([grCells g] : List (List Value)).flatMap id)
          refine hK.out _ _ ((fun j v hv => by rw [Nat.zero_add]; exact (HS319.out).at 1 rfl j hv)) (fun hHeld => ?_)
          clear hK K
          generalize (w318.alloc (.cells (([grCells g] : List (List Value)).flatMap id).toArray 29)) = w319 at *
          generalize w318.heap.size = B318 at *
          try simp only [Act.put, List.setIfInBounds_toArray, List.set_cons_zero, List.set_cons_succ]
          refine wpAnyH_ready (rs := [2, 3]) (by kernel_rfl) (by simp) ?_
          refine AllReadyH.cons (o := { dst := some 55, op := Op.call { callee := Callee.value (Operand.func 47), args := #[Operand.tmp 54], argTypes := #[23] }, type := 23, pos := "locks.go:163", after := #[{ on := 1, ground := Ground.data }], guard := none }) rfl (fun K hK => ?_) (AllReadyH.cons (o := { dst := some 56, op := Op.load 25 (Operand.tmp 2), type := 25, pos := "locks.go:163", after := #[], guard := none }) rfl (fun K hK => ?_) (AllReadyH.nil))
          · go_simp
            go_wp2_with (go_at_call 47; refine (HCl.out _ (HS319.out).old).mono ?_; rintro e w320 ⟨u0, rfl, hb, ho⟩)
            have HS320 : Hid (Hp w [.ob (w.heap.size) 25 (tbCells (.slice a t.held.length cap) (.slice a2 t.wait.length cap2)), .ob b3 29 (grCells g), .ob b4 25 (tbCells (.slice none 0 0) (.slice none 0 0)), .rd R, .ob B87 29 (grCells wx), .ob B318 29 (([grCells g] : List (List Value)).flatMap id), .sl u0 29 4 (t.wait.length) (grRow t.wait)] w320) := (HS319.out).addown hb ho
            refine hK.out _ _ ((fun j v hv => by rw [Nat.zero_add]; exact (HS320.out).at 1 rfl j hv)) (fun hHeld => ?_)
            clear hK K hb ho
            try simp only [Act.put, List.setIfInBounds_toArray, List.set_cons_zero, List.set_cons_succ]
            refine wpAnyH_ready (rs := [3]) (by kernel_rfl) (by simp) ?_
            refine AllReadyH.cons (o := { dst := some 56, op := Op.load 25 (Operand.tmp 2), type := 25, pos := "locks.go:163", after := #[], guard := none }) rfl (fun K hK => ?_) (AllReadyH.nil)
            rw [if_pos (by rfl)]
            refine wp_load_whole 25 (.tmp 2) (w.heap.size) (tbCells (.slice a t.held.length cap) (.slice a2 t.wait.length cap2)) 25 HUT.out rfl rfl ((HS320.out).get 0 rfl) rfl (info_tb) ?_
            have HS321 : Hid (Hp w [.ob (w.heap.size) 25 (tbCells (.slice a t.held.length cap) (.slice a2 t.wait.length cap2)), .ob b3 29 (grCells g), .ob b4 25 (tbCells (.slice none 0 0) (.slice none 0 0)), .rd R, .ob B87 29 (grCells wx), .ob B318 29 (([grCells g] : List (List Value)).flatMap id), .sl u0 29 4 (t.wait.length) (grRow t.wait)] w320) := HS320.out
            refine hK.out _ _ ((fun j v hv => by rw [Nat.zero_add]; exact (HS321.out).at 1 rfl j hv)) (fun hHeld => ?_)
            clear hK K
            try simp only [Act.put, List.setIfInBounds_toArray, List.set_cons_zero, List.set_cons_succ]
            refine wpAnyH_ready (rs := [5]) (by kernel_rfl) (by simp) ?_
            refine AllReadyH.cons (o := { dst := some 58, op := Op.call { callee := Callee.value (Operand.func 48), args := #[Operand.tmp 56, Operand.tmp 57], argTypes := #[25, 29] }, type := 3, pos := "locks.go:163", after := #[{ on := 3, ground := Ground.data }, { on := 4, ground := Ground.data }, { on := 2, ground := Ground.chain }], guard := none }) rfl (fun K hK => ?_) (AllReadyH.nil)
            go_simp
            go_wp2_with (go_at_call 48; refine (HTu1.out _ (HS321.out).old).mono ?_; rintro e w321 ⟨rfl, hb⟩)
            have HS322 : Hid (Hp w [.ob (w.heap.size) 25 (tbCells (.slice a t.held.length cap) (.slice a2 t.wait.length cap2)), .ob b3 29 (grCells g), .ob b4 25 (tbCells (.slice none 0 0) (.slice none 0 0)), .rd R, .ob B87 29 (grCells wx), .ob B318 29 (([grCells g] : List (List Value)).flatMap id), .sl u0 29 4 (t.wait.length) (grRow t.wait)] w321) := (HS321.out).calls hb
            refine hK.out _ _ ((fun j v hv => by rw [Nat.zero_add]; exact (HS322.out).at 1 rfl j hv)) (fun hHeld => ?_)
            clear hK K hb
            try simp only [Act.put, List.setIfInBounds_toArray, List.set_cons_zero, List.set_cons_succ]
            refine wpAnyH_ready (rs := [8]) (by kernel_rfl) (by simp) ?_
            refine AllReadyH.cons (o := { dst := some 61, op := Op.call { callee := Callee.value (Operand.func 46), args := #[Operand.tmp 55, Operand.tmp 58, Operand.tmp 60], argTypes := #[23, 3, 23] }, type := 23, pos := "locks.go:163", after := #[{ on := 2, ground := Ground.data }, { on := 5, ground := Ground.data }, { on := 7, ground := Ground.data }, { on := 5, ground := Ground.chain }], guard := none }) rfl (fun K hK => ?_) (AllReadyH.nil)
            go_simp
            go_wp2_with (go_at_call 46; refine (insert_own t.wait g p u0 w.heap.size B318 _ HPl.out ((HS322.out).own 6 rfl) ((HS322.out).get 5 rfl) (fun e => (HS322.out).ne 6 5 rfl rfl (by decide) e rfl rfl) (HS322.out).old.size (by have := HLn.out; omega)).mono ?_; rintro e w322 ⟨u6, rfl, ho6, hg6, hub6⟩)
            rw [HL6.out] at ho6
            have HS323 : Hid (Hp w [.ob (w.heap.size) 25 (tbCells (.slice a t.held.length cap) (.slice a2 t.wait.length cap2)), .ob b3 29 (grCells g), .ob b4 25 (tbCells (.slice none 0 0) (.slice none 0 0)), .rd R, .ob B87 29 (grCells wx), .ob B318 29 (([grCells g] : List (List Value)).flatMap id), .sl u6 29 4 (l6.length) (grRow l6)] w322) := (HS322.out).grown2 6 rfl ho6 hg6 (fun b hb => hub6.elim (fun h => .inl (h ▸ hb)) (fun h => .inr (by rw [h] at hb; exact Nat.le_of_eq (Option.some.inj hb))))
            refine hK.out _ _ ((fun j v hv => by rw [Nat.zero_add]; exact (HS323.out).at 1 rfl j hv)) (fun hHeld => ?_)
            clear hK K ho6 hg6 hub6
            try simp only [Act.put, List.setIfInBounds_toArray, List.set_cons_zero, List.set_cons_succ]
            refine wpAnyH_take (i := 9) (oi := { dst := some 62, op := Op.fieldAddr 25 (Operand.tmp 2) 1, type := 0, pos := "locks.go:163", after := #[{ on := 0, ground := Ground.phase }, { on := 1, ground := Ground.phase }, { on := 2, ground := Ground.phase }, { on := 3, ground := Ground.phase }, { on := 4, ground := Ground.phase }, { on := 5, ground := Ground.phase }, { on := 6, ground := Ground.phase }, { on := 7, ground := Ground.phase }, { on := 8, ground := Ground.phase }], guard := none }) (v := ?q1210v) rfl (by kernel_rfl) (by kernel_rfl) (by kernel_rfl) (fun _ _ _ h => h) (Or.inl ⟨by rfl, ?q1210h⟩) hHeld ?q1210r
            case q1210h => (intro wq hSw; clear hSw; go_simp; try with_reducible rfl)
            try simp only [Act.put, List.setIfInBounds_toArray, List.set_cons_zero, List.set_cons_succ]
            refine wpAnyH_ready (rs := [10]) (by kernel_rfl) (by simp) ?_
            refine AllReadyH.cons (o := { dst := none, op := Op.store 23 (Operand.tmp 62) (Operand.tmp 61), type := 0, pos := "locks.go:163", after := #[{ on := 9, ground := Ground.data }, { on := 8, ground := Ground.data }, { on := 8, ground := Ground.chain }, { on := 0, ground := Ground.phase }, { on := 1, ground := Ground.phase }, { on := 2, ground := Ground.phase }, { on := 3, ground := Ground.phase }, { on := 4, ground := Ground.phase }, { on := 5, ground := Ground.phase }, { on := 6, ground := Ground.phase }, { on := 7, ground := Ground.phase }, { on := 8, ground := Ground.phase }], guard := none }) rfl (fun K hK => ?_) (AllReadyH.nil)
            rw [if_pos (by rfl)]
            obtain ⟨a6, c6, rfl⟩ := own_slice ((HS323.out).own 6 rfl)
            have q5 := (HS323.out).at 0 rfl 1 rfl
            have f5 := (HS323.out).frozen 0 rfl 1
            go_simp
            clear q5 f5
            have HS324 : Hid (Hp w [.ob (w.heap.size) 25 (tbCells (.slice a t.held.length cap) (.slice a6 l6.length c6)), .ob b3 29 (grCells g), .ob b4 25 (tbCells (.slice none 0 0) (.slice none 0 0)), .rd R, .ob B87 29 (grCells wx), .ob B318 29 (([grCells g] : List (List Value)).flatMap id), .sl ((.slice a6 l6.length c6)) 29 4 (l6.length) (grRow l6)] (w322.setCell ⟨w.heap.size, 1, none⟩ (.slice a6 l6.length c6))) := (HS323.out).set 0 rfl 1 (.slice a6 l6.length c6)
            refine hK.out _ _ ((fun j v hv => by rw [Nat.zero_add]; exact (HS324.out).at 1 rfl j hv)) (fun hHeld => ?_)
            clear hK K
            generalize (w322.setCell ⟨w.heap.size, 1, none⟩ (.slice a6 l6.length c6)) = w323 at *
            try simp only [Act.put, List.setIfInBounds_toArray, List.set_cons_zero, List.set_cons_succ]
            refine wpAnyH_done (by kernel_rfl) ?_ _
            clear hHeld
            have HS325 : Hid (Hp w [.ob (w.heap.size) 25 (tbCells (.slice a t.held.length cap) (.slice a6 l6.length c6)), .ob b3 29 (grCells g), .ob b4 25 (tbCells (.slice none 0 0) (.slice none 0 0)), .rd R, .sl ((.slice a6 l6.length c6)) 29 4 (l6.length) (grRow l6)] w323) := HS324.out.pull [0, 1, 2, 3, 6] rfl (pull_nd HS324.out.nd [0, 1, 2, 3, 6] rfl (by decide))
            clear HS324
            obtain ⟨R7, h7, hn7, hs7⟩ := Hp.ownrd2 (A := [.ob (w.heap.size) 25 (tbCells (.slice a t.held.length cap) (.slice a6 l6.length c6)), .ob b3 29 (grCells g), .ob b4 25 (tbCells (.slice none 0 0) (.slice none 0 0)), .rd R]) HS325.out
            go_wp2_with fail
            go_meet
            exact ⟨a6, c6, R7, h7, hn7, hs7⟩
          · rw [if_pos (by rfl)]
            refine wp_load_whole 25 (.tmp 2) (w.heap.size) (tbCells (.slice a t.held.length cap) (.slice a2 t.wait.length cap2)) 25 HUT.out rfl rfl ((HS319.out).get 0 rfl) rfl (info_tb) ?_
            have HS320 : Hid (Hp w [.ob (w.heap.size) 25 (tbCells (.slice a t.held.length cap) (.slice a2 t.wait.length cap2)), .ob b3 29 (grCells g), .ob b4 25 (tbCells (.slice none 0 0) (.slice none 0 0)), .rd R, .ob B87 29 (grCells wx), .ob B318 29 (([grCells g] : List (List Value)).flatMap id)] w319) := HS319.out
            refine hK.out _ _ ((fun j v hv => by rw [Nat.zero_add]; exact (HS320.out).at 1 rfl j hv)) (fun hHeld => ?_)
            clear hK K
            try simp only [Act.put, List.setIfInBounds_toArray, List.set_cons_zero, List.set_cons_succ]
            refine wpAnyH_ready (rs := [2]) (by kernel_rfl) (by simp) ?_
            refine AllReadyH.cons (o := { dst := some 55, op := Op.call { callee := Callee.value (Operand.func 47), args := #[Operand.tmp 54], argTypes := #[23] }, type := 23, pos := "locks.go:163", after := #[{ on := 1, ground := Ground.data }], guard := none }) rfl (fun K hK => ?_) (AllReadyH.nil)
            go_simp
            go_wp2_with (go_at_call 47; refine (HCl.out _ (HS320.out).old).mono ?_; rintro e w320 ⟨u0, rfl, hb, ho⟩)
            have HS321 : Hid (Hp w [.ob (w.heap.size) 25 (tbCells (.slice a t.held.length cap) (.slice a2 t.wait.length cap2)), .ob b3 29 (grCells g), .ob b4 25 (tbCells (.slice none 0 0) (.slice none 0 0)), .rd R, .ob B87 29 (grCells wx), .ob B318 29 (([grCells g] : List (List Value)).flatMap id), .sl u0 29 4 (t.wait.length) (grRow t.wait)] w320) := (HS320.out).addown hb ho
            refine hK.out _ _ ((fun j v hv => by rw [Nat.zero_add]; exact (HS321.out).at 1 rfl j hv)) (fun hHeld => ?_)
            clear hK K hb ho
            try simp only [Act.put, List.setIfInBounds_toArray, List.set_cons_zero, List.set_cons_succ]
            refine wpAnyH_ready (rs := [5]) (by kernel_rfl) (by simp) ?_
            refine AllReadyH.cons (o := { dst := some 58, op := Op.call { callee := Callee.value (Operand.func 48), args := #[Operand.tmp 56, Operand.tmp 57], argTypes := #[25, 29] }, type := 3, pos := "locks.go:163", after := #[{ on := 3, ground := Ground.data }, { on := 4, ground := Ground.data }, { on := 2, ground := Ground.chain }], guard := none }) rfl (fun K hK => ?_) (AllReadyH.nil)
            go_simp
            go_wp2_with (go_at_call 48; refine (HTu1.out _ (HS321.out).old).mono ?_; rintro e w321 ⟨rfl, hb⟩)
            have HS322 : Hid (Hp w [.ob (w.heap.size) 25 (tbCells (.slice a t.held.length cap) (.slice a2 t.wait.length cap2)), .ob b3 29 (grCells g), .ob b4 25 (tbCells (.slice none 0 0) (.slice none 0 0)), .rd R, .ob B87 29 (grCells wx), .ob B318 29 (([grCells g] : List (List Value)).flatMap id), .sl u0 29 4 (t.wait.length) (grRow t.wait)] w321) := (HS321.out).calls hb
            refine hK.out _ _ ((fun j v hv => by rw [Nat.zero_add]; exact (HS322.out).at 1 rfl j hv)) (fun hHeld => ?_)
            clear hK K hb
            try simp only [Act.put, List.setIfInBounds_toArray, List.set_cons_zero, List.set_cons_succ]
            refine wpAnyH_ready (rs := [8]) (by kernel_rfl) (by simp) ?_
            refine AllReadyH.cons (o := { dst := some 61, op := Op.call { callee := Callee.value (Operand.func 46), args := #[Operand.tmp 55, Operand.tmp 58, Operand.tmp 60], argTypes := #[23, 3, 23] }, type := 23, pos := "locks.go:163", after := #[{ on := 2, ground := Ground.data }, { on := 5, ground := Ground.data }, { on := 7, ground := Ground.data }, { on := 5, ground := Ground.chain }], guard := none }) rfl (fun K hK => ?_) (AllReadyH.nil)
            go_simp
            go_wp2_with (go_at_call 46; refine (insert_own t.wait g p u0 w.heap.size B318 _ HPl.out ((HS322.out).own 6 rfl) ((HS322.out).get 5 rfl) (fun e => (HS322.out).ne 6 5 rfl rfl (by decide) e rfl rfl) (HS322.out).old.size (by have := HLn.out; omega)).mono ?_; rintro e w322 ⟨u6, rfl, ho6, hg6, hub6⟩)
            rw [HL6.out] at ho6
            have HS323 : Hid (Hp w [.ob (w.heap.size) 25 (tbCells (.slice a t.held.length cap) (.slice a2 t.wait.length cap2)), .ob b3 29 (grCells g), .ob b4 25 (tbCells (.slice none 0 0) (.slice none 0 0)), .rd R, .ob B87 29 (grCells wx), .ob B318 29 (([grCells g] : List (List Value)).flatMap id), .sl u6 29 4 (l6.length) (grRow l6)] w322) := (HS322.out).grown2 6 rfl ho6 hg6 (fun b hb => hub6.elim (fun h => .inl (h ▸ hb)) (fun h => .inr (by rw [h] at hb; exact Nat.le_of_eq (Option.some.inj hb))))
            refine hK.out _ _ ((fun j v hv => by rw [Nat.zero_add]; exact (HS323.out).at 1 rfl j hv)) (fun hHeld => ?_)
            clear hK K ho6 hg6 hub6
            try simp only [Act.put, List.setIfInBounds_toArray, List.set_cons_zero, List.set_cons_succ]
            refine wpAnyH_take (i := 9) (oi := { dst := some 62, op := Op.fieldAddr 25 (Operand.tmp 2) 1, type := 0, pos := "locks.go:163", after := #[{ on := 0, ground := Ground.phase }, { on := 1, ground := Ground.phase }, { on := 2, ground := Ground.phase }, { on := 3, ground := Ground.phase }, { on := 4, ground := Ground.phase }, { on := 5, ground := Ground.phase }, { on := 6, ground := Ground.phase }, { on := 7, ground := Ground.phase }, { on := 8, ground := Ground.phase }], guard := none }) (v := ?q1211v) rfl (by kernel_rfl) (by kernel_rfl) (by kernel_rfl) (fun _ _ _ h => h) (Or.inl ⟨by rfl, ?q1211h⟩) hHeld ?q1211r
            case q1211h => (intro wq hSw; clear hSw; go_simp; try with_reducible rfl)
            try simp only [Act.put, List.setIfInBounds_toArray, List.set_cons_zero, List.set_cons_succ]
            refine wpAnyH_ready (rs := [10]) (by kernel_rfl) (by simp) ?_
            refine AllReadyH.cons (o := { dst := none, op := Op.store 23 (Operand.tmp 62) (Operand.tmp 61), type := 0, pos := "locks.go:163", after := #[{ on := 9, ground := Ground.data }, { on := 8, ground := Ground.data }, { on := 8, ground := Ground.chain }, { on := 0, ground := Ground.phase }, { on := 1, ground := Ground.phase }, { on := 2, ground := Ground.phase }, { on := 3, ground := Ground.phase }, { on := 4, ground := Ground.phase }, { on := 5, ground := Ground.phase }, { on := 6, ground := Ground.phase }, { on := 7, ground := Ground.phase }, { on := 8, ground := Ground.phase }], guard := none }) rfl (fun K hK => ?_) (AllReadyH.nil)
            rw [if_pos (by rfl)]
            obtain ⟨a6, c6, rfl⟩ := own_slice ((HS323.out).own 6 rfl)
            have q5 := (HS323.out).at 0 rfl 1 rfl
            have f5 := (HS323.out).frozen 0 rfl 1
            go_simp
            clear q5 f5
            have HS324 : Hid (Hp w [.ob (w.heap.size) 25 (tbCells (.slice a t.held.length cap) (.slice a6 l6.length c6)), .ob b3 29 (grCells g), .ob b4 25 (tbCells (.slice none 0 0) (.slice none 0 0)), .rd R, .ob B87 29 (grCells wx), .ob B318 29 (([grCells g] : List (List Value)).flatMap id), .sl ((.slice a6 l6.length c6)) 29 4 (l6.length) (grRow l6)] (w322.setCell ⟨w.heap.size, 1, none⟩ (.slice a6 l6.length c6))) := (HS323.out).set 0 rfl 1 (.slice a6 l6.length c6)
            refine hK.out _ _ ((fun j v hv => by rw [Nat.zero_add]; exact (HS324.out).at 1 rfl j hv)) (fun hHeld => ?_)
            clear hK K
            generalize (w322.setCell ⟨w.heap.size, 1, none⟩ (.slice a6 l6.length c6)) = w323 at *
            try simp only [Act.put, List.setIfInBounds_toArray, List.set_cons_zero, List.set_cons_succ]
            refine wpAnyH_done (by kernel_rfl) ?_ _
            clear hHeld
            have HS325 : Hid (Hp w [.ob (w.heap.size) 25 (tbCells (.slice a t.held.length cap) (.slice a6 l6.length c6)), .ob b3 29 (grCells g), .ob b4 25 (tbCells (.slice none 0 0) (.slice none 0 0)), .rd R, .sl ((.slice a6 l6.length c6)) 29 4 (l6.length) (grRow l6)] w323) := HS324.out.pull [0, 1, 2, 3, 6] rfl (pull_nd HS324.out.nd [0, 1, 2, 3, 6] rfl (by decide))
            clear HS324
            obtain ⟨R7, h7, hn7, hs7⟩ := Hp.ownrd2 (A := [.ob (w.heap.size) 25 (tbCells (.slice a t.held.length cap) (.slice a6 l6.length c6)), .ob b3 29 (grCells g), .ob b4 25 (tbCells (.slice none 0 0) (.slice none 0 0)), .rd R]) HS325.out
            go_wp2_with fail
            go_meet
            exact ⟨a6, c6, R7, h7, hn7, hs7⟩
      · rw [if_pos (by rfl)]
        refine wp_load_whole 25 (.tmp 2) (w.heap.size) (tbCells (.slice a t.held.length cap) (.slice a2 t.wait.length cap2)) 25 HUT.out rfl rfl (((HS272.out).drew).get 0 rfl) rfl (info_tb) ?_
        have HS318 : Hid (Hp w [.ob (w.heap.size) 25 (tbCells (.slice a t.held.length cap) (.slice a2 t.wait.length cap2)), .ob b3 29 (grCells g), .ob b4 25 (tbCells (.slice none 0 0) (.slice none 0 0)), .rd R, .ob B87 29 (grCells wx)] (w272.drew)) := (HS272.out).drew
        refine hK.out _ _ ((fun j v hv => by rw [Nat.zero_add]; exact (HS318.out).at 1 rfl j hv)) (fun hHeld => ?_)
        clear hK K
        generalize w272.drew = w318 at *
        try simp only [Act.put, List.setIfInBounds_toArray, List.set_cons_zero, List.set_cons_succ]
        refine wpAnyH_ready (rs := [1, 7]) (by kernel_rfl) (by simp) ?_
        refine AllReadyH.cons (o := { dst := some 54, op := Op.load 23 (Operand.tmp 53), type := 23, pos := "locks.go:163", after := #[{ on := 0, ground := Ground.data }], guard := none }) rfl (fun K hK => ?_) (AllReadyH.cons (o := { dst := some 60, op := Op.buildSlice 23 1 #[(0, Operand.tmp 59)], type := 23, pos := "locks.go:163", after := #[{ on := 6, ground := Ground.data }], guard := none }) rfl (fun K hK => ?_) (AllReadyH.nil))
        · have q0 := (HS318.out).at 0 rfl 1 rfl
          go_simp
          clear q0
          have HS319 : Hid (Hp w [.ob (w.heap.size) 25 (tbCells (.slice a t.held.length cap) (.slice a2 t.wait.length cap2)), .ob b3 29 (grCells g), .ob b4 25 (tbCells (.slice none 0 0) (.slice none 0 0)), .rd R, .ob B87 29 (grCells wx)] w318) := HS318.out
          refine hK.out _ _ ((fun j v hv => by rw [Nat.zero_add]; exact (HS319.out).at 1 rfl j hv)) (fun hHeld => ?_)
          clear hK K
          try simp only [Act.put, List.setIfInBounds_toArray, List.set_cons_zero, List.set_cons_succ]
          refine wpAnyH_ready (rs := [2, 7]) (by kernel_rfl) (by simp) ?_
          refine AllReadyH.cons (o := { dst := some 55, op := Op.call { callee := Callee.value (Operand.func 47), args := #[Operand.tmp 54], argTypes := #[23] }, type := 23, pos := "locks.go:163", after := #[{ on := 1, ground := Ground.data }], guard := none }) rfl (fun K hK => ?_) (AllReadyH.cons (o := { dst := some 60, op := Op.buildSlice 23 1 #[(0, Operand.tmp 59)], type := 23, pos := "locks.go:163", after := #[{ on := 6, ground := Ground.data }], guard := none }) rfl (fun K hK => ?_) (AllReadyH.nil))
          · go_simp
            go_wp2_with (go_at_call 47; refine (HCl.out _ (HS319.out).old).mono ?_; rintro e w319 ⟨u0, rfl, hb, ho⟩)
            have HS320 : Hid (Hp w [.ob (w.heap.size) 25 (tbCells (.slice a t.held.length cap) (.slice a2 t.wait.length cap2)), .ob b3 29 (grCells g), .ob b4 25 (tbCells (.slice none 0 0) (.slice none 0 0)), .rd R, .ob B87 29 (grCells wx), .sl u0 29 4 (t.wait.length) (grRow t.wait)] w319) := (HS319.out).addown hb ho
            refine hK.out _ _ ((fun j v hv => by rw [Nat.zero_add]; exact (HS320.out).at 1 rfl j hv)) (fun hHeld => ?_)
            clear hK K hb ho
            try simp only [Act.put, List.setIfInBounds_toArray, List.set_cons_zero, List.set_cons_succ]
            refine wpAnyH_ready (rs := [5, 7]) (by kernel_rfl) (by simp) ?_
            refine AllReadyH.cons (o := { dst := some 58, op := Op.call { callee := Callee.value (Operand.func 48), args := #[Operand.tmp 56, Operand.tmp 57], argTypes := #[25, 29] }, type := 3, pos := "locks.go:163", after := #[{ on := 3, ground := Ground.data }, { on := 4, ground := Ground.data }, { on := 2, ground := Ground.chain }], guard := none }) rfl (fun K hK => ?_) (AllReadyH.cons (o := { dst := some 60, op := Op.buildSlice 23 1 #[(0, Operand.tmp 59)], type := 23, pos := "locks.go:163", after := #[{ on := 6, ground := Ground.data }], guard := none }) rfl (fun K hK => ?_) (AllReadyH.nil))
            · go_simp
              go_wp2_with (go_at_call 48; refine (HTu1.out _ (HS320.out).old).mono ?_; rintro e w320 ⟨rfl, hb⟩)
              have HS321 : Hid (Hp w [.ob (w.heap.size) 25 (tbCells (.slice a t.held.length cap) (.slice a2 t.wait.length cap2)), .ob b3 29 (grCells g), .ob b4 25 (tbCells (.slice none 0 0) (.slice none 0 0)), .rd R, .ob B87 29 (grCells wx), .sl u0 29 4 (t.wait.length) (grRow t.wait)] w320) := (HS320.out).calls hb
              refine hK.out _ _ ((fun j v hv => by rw [Nat.zero_add]; exact (HS321.out).at 1 rfl j hv)) (fun hHeld => ?_)
              clear hK K hb
              try simp only [Act.put, List.setIfInBounds_toArray, List.set_cons_zero, List.set_cons_succ]
              refine wpAnyH_ready (rs := [7]) (by kernel_rfl) (by simp) ?_
              refine AllReadyH.cons (o := { dst := some 60, op := Op.buildSlice 23 1 #[(0, Operand.tmp 59)], type := 23, pos := "locks.go:163", after := #[{ on := 6, ground := Ground.data }], guard := none }) rfl (fun K hK => ?_) (AllReadyH.nil)
              rw [if_pos (by rfl)]
              refine wp_build_obs rfl elem_gr HUX.out [grCells g] (List.forall_mem_cons.2 ⟨rfl, (fun _ h => absurd h List.not_mem_nil)⟩) (Nat.succ_pos _) (by simp only [List.length_cons, List.length_nil]; omega) rfl (by simp only [List.map_toArray, List.map_cons, List.map_nil, List.zipIdx_cons, List.zipIdx_nil]; exact rfl) ?_
              have HS322 : Hid (Hp w [.ob (w.heap.size) 25 (tbCells (.slice a t.held.length cap) (.slice a2 t.wait.length cap2)), .ob b3 29 (grCells g), .ob b4 25 (tbCells (.slice none 0 0) (.slice none 0 0)), .rd R, .ob B87 29 (grCells wx), .sl u0 29 4 (t.wait.length) (grRow t.wait), .ob (w320.heap.size) 29 (([grCells g] : List (List Value)).flatMap id)] (w320.alloc (.cells (([grCells g] : List (List Value)).flatMap id).toArray 29))) := (HS321.out).put 29 (([grCells g] : List (List Value)).flatMap id)
              refine hK.out _ _ ((fun j v hv => by rw [Nat.zero_add]; exact (HS322.out).at 1 rfl j hv)) (fun hHeld => ?_)
              clear hK K
              generalize (w320.alloc (.cells (([grCells g] : List (List Value)).flatMap id).toArray 29)) = w321 at *
              generalize w320.heap.size = B318 at *
              try simp only [Act.put, List.setIfInBounds_toArray, List.set_cons_zero, List.set_cons_succ]
              refine wpAnyH_ready (rs := [8]) (by kernel_rfl) (by simp) ?_
              refine AllReadyH.cons (o := { dst := some 61, op := Op.call { callee := Callee.value (Operand.func 46), args := #[Operand.tmp 55, Operand.tmp 58, Operand.tmp 60], argTypes := #[23, 3, 23] }, type := 23, pos := "locks.go:163", after := #[{ on := 2, ground := Ground.data }, { on := 5, ground := Ground.data }, { on := 7, ground := Ground.data }, { on := 5, ground := Ground.chain }], guard := none }) rfl (fun K hK => ?_) (AllReadyH.nil)
              go_simp
              go_wp2_with (go_at_call 46; refine (insert_own t.wait g p u0 w.heap.size B318 _ HPl.out ((HS322.out).own 5 rfl) ((HS322.out).get 6 rfl) (fun e => (HS322.out).ne 5 6 rfl rfl (by decide) e rfl rfl) (HS322.out).old.size (by have := HLn.out; omega)).mono ?_; rintro e w322 ⟨u6, rfl, ho6, hg6, hub6⟩)
              rw [HL6.out] at ho6
              have HS323 : Hid (Hp w [.ob (w.heap.size) 25 (tbCells (.slice a t.held.length cap) (.slice a2 t.wait.length cap2)), .ob b3 29 (grCells g), .ob b4 25 (tbCells (.slice none 0 0) (.slice none 0 0)), .rd R, .ob B87 29 (grCells wx), .sl u6 29 4 (l6.length) (grRow l6), .ob B318 29 (([grCells g] : List (List Value)).flatMap id)] w322) := (HS322.out).grown2 5 rfl ho6 hg6 (fun b hb => hub6.elim (fun h => .inl (h ▸ hb)) (fun h => .inr (by rw [h] at hb; exact Nat.le_of_eq (Option.some.inj hb))))
              refine hK.out _ _ ((fun j v hv => by rw [Nat.zero_add]; exact (HS323.out).at 1 rfl j hv)) (fun hHeld => ?_)
              clear hK K ho6 hg6 hub6
              try simp only [Act.put, List.setIfInBounds_toArray, List.set_cons_zero, List.set_cons_succ]
              refine wpAnyH_take (i := 9) (oi := { dst := some 62, op := Op.fieldAddr 25 (Operand.tmp 2) 1, type := 0, pos := "locks.go:163", after := #[{ on := 0, ground := Ground.phase }, { on := 1, ground := Ground.phase }, { on := 2, ground := Ground.phase }, { on := 3, ground := Ground.phase }, { on := 4, ground := Ground.phase }, { on := 5, ground := Ground.phase }, { on := 6, ground := Ground.phase }, { on := 7, ground := Ground.phase }, { on := 8, ground := Ground.phase }], guard := none }) (v := ?q1212v) rfl (by kernel_rfl) (by kernel_rfl) (by kernel_rfl) (fun _ _ _ h => h) (Or.inl ⟨by rfl, ?q1212h⟩) hHeld ?q1212r
              case q1212h => (intro wq hSw; clear hSw; go_simp; try with_reducible rfl)
              try simp only [Act.put, List.setIfInBounds_toArray, List.set_cons_zero, List.set_cons_succ]
              refine wpAnyH_ready (rs := [10]) (by kernel_rfl) (by simp) ?_
              refine AllReadyH.cons (o := { dst := none, op := Op.store 23 (Operand.tmp 62) (Operand.tmp 61), type := 0, pos := "locks.go:163", after := #[{ on := 9, ground := Ground.data }, { on := 8, ground := Ground.data }, { on := 8, ground := Ground.chain }, { on := 0, ground := Ground.phase }, { on := 1, ground := Ground.phase }, { on := 2, ground := Ground.phase }, { on := 3, ground := Ground.phase }, { on := 4, ground := Ground.phase }, { on := 5, ground := Ground.phase }, { on := 6, ground := Ground.phase }, { on := 7, ground := Ground.phase }, { on := 8, ground := Ground.phase }], guard := none }) rfl (fun K hK => ?_) (AllReadyH.nil)
              rw [if_pos (by rfl)]
              obtain ⟨a6, c6, rfl⟩ := own_slice ((HS323.out).own 5 rfl)
              have q5 := (HS323.out).at 0 rfl 1 rfl
              have f5 := (HS323.out).frozen 0 rfl 1
              go_simp
              clear q5 f5
              have HS324 : Hid (Hp w [.ob (w.heap.size) 25 (tbCells (.slice a t.held.length cap) (.slice a6 l6.length c6)), .ob b3 29 (grCells g), .ob b4 25 (tbCells (.slice none 0 0) (.slice none 0 0)), .rd R, .ob B87 29 (grCells wx), .sl ((.slice a6 l6.length c6)) 29 4 (l6.length) (grRow l6), .ob B318 29 (([grCells g] : List (List Value)).flatMap id)] (w322.setCell ⟨w.heap.size, 1, none⟩ (.slice a6 l6.length c6))) := (HS323.out).set 0 rfl 1 (.slice a6 l6.length c6)
              refine hK.out _ _ ((fun j v hv => by rw [Nat.zero_add]; exact (HS324.out).at 1 rfl j hv)) (fun hHeld => ?_)
              clear hK K
              generalize (w322.setCell ⟨w.heap.size, 1, none⟩ (.slice a6 l6.length c6)) = w323 at *
              try simp only [Act.put, List.setIfInBounds_toArray, List.set_cons_zero, List.set_cons_succ]
              refine wpAnyH_done (by kernel_rfl) ?_ _
              clear hHeld
              have HS325 : Hid (Hp w [.ob (w.heap.size) 25 (tbCells (.slice a t.held.length cap) (.slice a6 l6.length c6)), .ob b3 29 (grCells g), .ob b4 25 (tbCells (.slice none 0 0) (.slice none 0 0)), .rd R, .sl ((.slice a6 l6.length c6)) 29 4 (l6.length) (grRow l6)] w323) := HS324.out.pull [0, 1, 2, 3, 5] rfl (pull_nd HS324.out.nd [0, 1, 2, 3, 5] rfl (by decide))
              clear HS324
              obtain ⟨R7, h7, hn7, hs7⟩ := Hp.ownrd2 (A := [.ob (w.heap.size) 25 (tbCells (.slice a t.held.length cap) (.slice a6 l6.length c6)), .ob b3 29 (grCells g), .ob b4 25 (tbCells (.slice none 0 0) (.slice none 0 0)), .rd R]) HS325.out
              go_wp2_with fail
              go_meet
              exact ⟨a6, c6, R7, h7, hn7, hs7⟩
            · rw [if_pos (by rfl)]
              refine wp_build_obs rfl elem_gr HUX.out [grCells g] (List.forall_mem_cons.2 ⟨rfl, (fun _ h => absurd h List.not_mem_nil)⟩) (Nat.succ_pos _) (by simp only [List.length_cons, List.length_nil]; omega) rfl (by simp only [List.map_toArray, List.map_cons, List.map_nil, List.zipIdx_cons, List.zipIdx_nil]; exact rfl) ?_
              have HS321 : Hid (Hp w [.ob (w.heap.size) 25 (tbCells (.slice a t.held.length cap) (.slice a2 t.wait.length cap2)), .ob b3 29 (grCells g), .ob b4 25 (tbCells (.slice none 0 0) (.slice none 0 0)), .rd R, .ob B87 29 (grCells wx), .sl u0 29 4 (t.wait.length) (grRow t.wait), .ob (w319.heap.size) 29 (([grCells g] : List (List Value)).flatMap id)] (w319.alloc (.cells (([grCells g] : List (List Value)).flatMap id).toArray 29))) := (HS320.out).put 29 (([grCells g] : List (List Value)).flatMap id)
              refine hK.out _ _ ((fun j v hv => by rw [Nat.zero_add]; exact (HS321.out).at 1 rfl j hv)) (fun hHeld => ?_)
              clear hK K
              generalize (w319.alloc (.cells (([grCells g] : List (List Value)).flatMap id).toArray 29)) = w320 at *
              generalize w319.heap.size = B318 at *
              try simp only [Act.put, List.setIfInBounds_toArray, List.set_cons_zero, List.set_cons_succ]
              refine wpAnyH_ready (rs := [5]) (by kernel_rfl) (by simp) ?_
              refine AllReadyH.cons (o := { dst := some 58, op := Op.call { callee := Callee.value (Operand.func 48), args := #[Operand.tmp 56, Operand.tmp 57], argTypes := #[25, 29] }, type := 3, pos := "locks.go:163", after := #[{ on := 3, ground := Ground.data }, { on := 4, ground := Ground.data }, { on := 2, ground := Ground.chain }], guard := none }) rfl (fun K hK => ?_) (AllReadyH.nil)
              go_simp
              go_wp2_with (go_at_call 48; refine (HTu1.out _ (HS321.out).old).mono ?_; rintro e w321 ⟨rfl, hb⟩)
              have HS322 : Hid (Hp w [.ob (w.heap.size) 25 (tbCells (.slice a t.held.length cap) (.slice a2 t.wait.length cap2)), .ob b3 29 (grCells g), .ob b4 25 (tbCells (.slice none 0 0) (.slice none 0 0)), .rd R, .ob B87 29 (grCells wx), .sl u0 29 4 (t.wait.length) (grRow t.wait), .ob B318 29 (([grCells g] : List (List Value)).flatMap id)] w321) := (HS321.out).calls hb
              refine hK.out _ _ ((fun j v hv => by rw [Nat.zero_add]; exact (HS322.out).at 1 rfl j hv)) (fun hHeld => ?_)
              clear hK K hb
              try simp only [Act.put, List.setIfInBounds_toArray, List.set_cons_zero, List.set_cons_succ]
              refine wpAnyH_ready (rs := [8]) (by kernel_rfl) (by simp) ?_
              refine AllReadyH.cons (o := { dst := some 61, op := Op.call { callee := Callee.value (Operand.func 46), args := #[Operand.tmp 55, Operand.tmp 58, Operand.tmp 60], argTypes := #[23, 3, 23] }, type := 23, pos := "locks.go:163", after := #[{ on := 2, ground := Ground.data }, { on := 5, ground := Ground.data }, { on := 7, ground := Ground.data }, { on := 5, ground := Ground.chain }], guard := none }) rfl (fun K hK => ?_) (AllReadyH.nil)
              go_simp
              go_wp2_with (go_at_call 46; refine (insert_own t.wait g p u0 w.heap.size B318 _ HPl.out ((HS322.out).own 5 rfl) ((HS322.out).get 6 rfl) (fun e => (HS322.out).ne 5 6 rfl rfl (by decide) e rfl rfl) (HS322.out).old.size (by have := HLn.out; omega)).mono ?_; rintro e w322 ⟨u6, rfl, ho6, hg6, hub6⟩)
              rw [HL6.out] at ho6
              have HS323 : Hid (Hp w [.ob (w.heap.size) 25 (tbCells (.slice a t.held.length cap) (.slice a2 t.wait.length cap2)), .ob b3 29 (grCells g), .ob b4 25 (tbCells (.slice none 0 0) (.slice none 0 0)), .rd R, .ob B87 29 (grCells wx), .sl u6 29 4 (l6.length) (grRow l6), .ob B318 29 (([grCells g] : List (List Value)).flatMap id)] w322) := (HS322.out).grown2 5 rfl ho6 hg6 (fun b hb => hub6.elim (fun h => .inl (h ▸ hb)) (fun h => .inr (by rw [h] at hb; exact Nat.le_of_eq (Option.some.inj hb))))
              refine hK.out _ _ ((fun j v hv => by rw [Nat.zero_add]; exact (HS323.out).at 1 rfl j hv)) (fun hHeld => ?_)
              clear hK K ho6 hg6 hub6
              try simp only [Act.put, List.setIfInBounds_toArray, List.set_cons_zero, List.set_cons_succ]
              refine wpAnyH_take (i := 9) (oi := { dst := some 62, op := Op.fieldAddr 25 (Operand.tmp 2) 1, type := 0, pos := "locks.go:163", after := #[{ on := 0, ground := Ground.phase }, { on := 1, ground := Ground.phase }, { on := 2, ground := Ground.phase }, { on := 3, ground := Ground.phase }, { on := 4, ground := Ground.phase }, { on := 5, ground := Ground.phase }, { on := 6, ground := Ground.phase }, { on := 7, ground := Ground.phase }, { on := 8, ground := Ground.phase }], guard := none }) (v := ?q1213v) rfl (by kernel_rfl) (by kernel_rfl) (by kernel_rfl) (fun _ _ _ h => h) (Or.inl ⟨by rfl, ?q1213h⟩) hHeld ?q1213r
              case q1213h => (intro wq hSw; clear hSw; go_simp; try with_reducible rfl)
              try simp only [Act.put, List.setIfInBounds_toArray, List.set_cons_zero, List.set_cons_succ]
              refine wpAnyH_ready (rs := [10]) (by kernel_rfl) (by simp) ?_
              refine AllReadyH.cons (o := { dst := none, op := Op.store 23 (Operand.tmp 62) (Operand.tmp 61), type := 0, pos := "locks.go:163", after := #[{ on := 9, ground := Ground.data }, { on := 8, ground := Ground.data }, { on := 8, ground := Ground.chain }, { on := 0, ground := Ground.phase }, { on := 1, ground := Ground.phase }, { on := 2, ground := Ground.phase }, { on := 3, ground := Ground.phase }, { on := 4, ground := Ground.phase }, { on := 5, ground := Ground.phase }, { on := 6, ground := Ground.phase }, { on := 7, ground := Ground.phase }, { on := 8, ground := Ground.phase }], guard := none }) rfl (fun K hK => ?_) (AllReadyH.nil)
              rw [if_pos (by rfl)]
              obtain ⟨a6, c6, rfl⟩ := own_slice ((HS323.out).own 5 rfl)
              have q5 := (HS323.out).at 0 rfl 1 rfl
              have f5 := (HS323.out).frozen 0 rfl 1
              go_simp
              clear q5 f5
              have HS324 : Hid (Hp w [.ob (w.heap.size) 25 (tbCells (.slice a t.held.length cap) (.slice a6 l6.length c6)), .ob b3 29 (grCells g), .ob b4 25 (tbCells (.slice none 0 0) (.slice none 0 0)), .rd R, .ob B87 29 (grCells wx), .sl ((.slice a6 l6.length c6)) 29 4 (l6.length) (grRow l6), .ob B318 29 (([grCells g] : List (List Value)).flatMap id)] (w322.setCell ⟨w.heap.size, 1, none⟩ (.slice a6 l6.length c6))) := (HS323.out).set 0 rfl 1 (.slice a6 l6.length c6)
              refine hK.out _ _ ((fun j v hv => by rw [Nat.zero_add]; exact (HS324.out).at 1 rfl j hv)) (fun hHeld => ?_)
              clear hK K
              generalize (w322.setCell ⟨w.heap.size, 1, none⟩ (.slice a6 l6.length c6)) = w323 at *
              try simp only [Act.put, List.setIfInBounds_toArray, List.set_cons_zero, List.set_cons_succ]
              refine wpAnyH_done (by kernel_rfl) ?_ _
              clear hHeld
              have HS325 : Hid (Hp w [.ob (w.heap.size) 25 (tbCells (.slice a t.held.length cap) (.slice a6 l6.length c6)), .ob b3 29 (grCells g), .ob b4 25 (tbCells (.slice none 0 0) (.slice none 0 0)), .rd R, .sl ((.slice a6 l6.length c6)) 29 4 (l6.length) (grRow l6)] w323) := HS324.out.pull [0, 1, 2, 3, 5] rfl (pull_nd HS324.out.nd [0, 1, 2, 3, 5] rfl (by decide))
              clear HS324
              obtain ⟨R7, h7, hn7, hs7⟩ := Hp.ownrd2 (A := [.ob (w.heap.size) 25 (tbCells (.slice a t.held.length cap) (.slice a6 l6.length c6)), .ob b3 29 (grCells g), .ob b4 25 (tbCells (.slice none 0 0) (.slice none 0 0)), .rd R]) HS325.out
              go_wp2_with fail
              go_meet
              exact ⟨a6, c6, R7, h7, hn7, hs7⟩
          · rw [if_pos (by rfl)]
            refine wp_build_obs rfl elem_gr HUX.out [grCells g] (List.forall_mem_cons.2 ⟨rfl, (fun _ h => absurd h List.not_mem_nil)⟩) (Nat.succ_pos _) (by simp only [List.length_cons, List.length_nil]; omega) rfl (by simp only [List.map_toArray, List.map_cons, List.map_nil, List.zipIdx_cons, List.zipIdx_nil]; exact rfl) ?_
            have HS320 : Hid (Hp w [.ob (w.heap.size) 25 (tbCells (.slice a t.held.length cap) (.slice a2 t.wait.length cap2)), .ob b3 29 (grCells g), .ob b4 25 (tbCells (.slice none 0 0) (.slice none 0 0)), .rd R, .ob B87 29 (grCells wx), .ob (w318.heap.size) 29 (([grCells g] : List (List Value)).flatMap id)] (w318.alloc (.cells (([grCells g] : List (List Value)).flatMap id).toArray 29))) := (HS319.out).put 29 (([grCells g] : List (List Value)).flatMap id)
            refine hK.out _ _ ((fun j v hv => by rw [Nat.zero_add]; exact (HS320.out).at 1 rfl j hv)) (fun hHeld => ?_)
            clear hK K
            generalize (w318.alloc (.cells (([grCells g] : List (List Value)).flatMap id).toArray 29)) = w319 at *
            generalize w318.heap.size = B318 at *
            try simp only [Act.put, List.setIfInBounds_toArray, List.set_cons_zero, List.set_cons_succ]
            refine wpAnyH_ready (rs := [2]) (by kernel_rfl) (by simp) ?_
            refine AllReadyH.cons (o := { dst := some 55, op := Op.call { callee := Callee.value (Operand.func 47), args := #[Operand.tmp 54], argTypes := #[23] }, type := 23, pos := "locks.go:163", after := #[{ on := 1, ground := Ground.data }], guard := none }) rfl (fun K hK => ?_) (AllReadyH.nil)
            go_simp
            go_wp2_with (go_at_call 47; refine (HCl.out _ (HS320.out).old).mono ?_; rintro e w320 ⟨u0, rfl, hb, ho⟩)
            have HS321 : Hid (Hp w [.ob (w.heap.size) 25 (tbCells (.slice a t.held.length cap) (.slice a2 t.wait.length cap2)), .ob b3 29 (grCells g), .ob b4 25 (tbCells (.slice none 0 0) (.slice none 0 0)), .rd R, .ob B87 29 (grCells wx), .ob B318 29 (([grCells g] : List (List Value)).flatMap id), .sl u0 29 4 (t.wait.length) (grRow t.wait)] w320) := (HS320.out).addown hb ho
            refine hK.out _ _ ((fun j v hv => by rw [Nat.zero_add]; exact (HS321.out).at 1 rfl j hv)) (fun hHeld => ?_)
            clear hK K hb ho
            try simp only [Act.put, List.setIfInBounds_toArray, List.set_cons_zero, List.set_cons_succ]
            refine wpAnyH_ready (rs := [5]) (by kernel_rfl) (by simp) ?_
            refine AllReadyH.cons (o := { dst := some 58, op := Op.call { callee := Callee.value (Operand.func 48), args := #[Operand.tmp 56, Operand.tmp 57], argTypes := #[25, 29] }, type := 3, pos := "locks.go:163", after := #[{ on := 3, ground := Ground.data }, { on := 4, ground := Ground.data }, { on := 2, ground := Ground.chain }], guard := none }) rfl (fun K hK => ?_) (AllReadyH.nil)
            go_simp
            go_wp2_with (go_at_call 48; refine (HTu1.out _ (HS321.out).old).mono ?_; rintro e w321 ⟨rfl, hb⟩)
            have HS322 : Hid (Hp w [.ob (w.heap.size) 25 (tbCells (.slice a t.held.length cap) (.slice a2 t.wait.length cap2)), .ob b3 29 (grCells g), .ob b4 25 (tbCells (.slice none 0 0) (.slice none 0 0)), .rd R, .ob B87 29 (grCells wx), .ob B318 29 (([grCells g] : List (List Value)).flatMap id), .sl u0 29 4 (t.wait.length) (grRow t.wait)] w321) := (HS321.out).calls hb
            refine hK.out _ _ ((fun j v hv => by rw [Nat.zero_add]; exact (HS322.out).at 1 rfl j hv)) (fun hHeld => ?_)
            clear hK K hb
            try simp only [Act.put, List.setIfInBounds_toArray, List.set_cons_zero, List.set_cons_succ]
            refine wpAnyH_ready (rs := [8]) (by kernel_rfl) (by simp) ?_
            refine AllReadyH.cons (o := { dst := some 61, op := Op.call { callee := Callee.value (Operand.func 46), args := #[Operand.tmp 55, Operand.tmp 58, Operand.tmp 60], argTypes := #[23, 3, 23] }, type := 23, pos := "locks.go:163", after := #[{ on := 2, ground := Ground.data }, { on := 5, ground := Ground.data }, { on := 7, ground := Ground.data }, { on := 5, ground := Ground.chain }], guard := none }) rfl (fun K hK => ?_) (AllReadyH.nil)
            go_simp
            go_wp2_with (go_at_call 46; refine (insert_own t.wait g p u0 w.heap.size B318 _ HPl.out ((HS322.out).own 6 rfl) ((HS322.out).get 5 rfl) (fun e => (HS322.out).ne 6 5 rfl rfl (by decide) e rfl rfl) (HS322.out).old.size (by have := HLn.out; omega)).mono ?_; rintro e w322 ⟨u6, rfl, ho6, hg6, hub6⟩)
            rw [HL6.out] at ho6
            have HS323 : Hid (Hp w [.ob (w.heap.size) 25 (tbCells (.slice a t.held.length cap) (.slice a2 t.wait.length cap2)), .ob b3 29 (grCells g), .ob b4 25 (tbCells (.slice none 0 0) (.slice none 0 0)), .rd R, .ob B87 29 (grCells wx), .ob B318 29 (([grCells g] : List (List Value)).flatMap id), .sl u6 29 4 (l6.length) (grRow l6)] w322) := (HS322.out).grown2 6 rfl ho6 hg6 (fun b hb => hub6.elim (fun h => .inl (h ▸ hb)) (fun h => .inr (by rw [h] at hb; exact Nat.le_of_eq (Option.some.inj hb))))
            refine hK.out _ _ ((fun j v hv => by rw [Nat.zero_add]; exact (HS323.out).at 1 rfl j hv)) (fun hHeld => ?_)
            clear hK K ho6 hg6 hub6
            try simp only [Act.put, List.setIfInBounds_toArray, List.set_cons_zero, List.set_cons_succ]
            refine wpAnyH_take (i := 9) (oi := { dst := some 62, op := Op.fieldAddr 25 (Operand.tmp 2) 1, type := 0, pos := "locks.go:163", after := #[{ on := 0, ground := Ground.phase }, { on := 1, ground := Ground.phase }, { on := 2, ground := Ground.phase }, { on := 3, ground := Ground.phase }, { on := 4, ground := Ground.phase }, { on := 5, ground := Ground.phase }, { on := 6, ground := Ground.phase }, { on := 7, ground := Ground.phase }, { on := 8, ground := Ground.phase }], guard := none }) (v := ?q1214v) rfl (by kernel_rfl) (by kernel_rfl) (by kernel_rfl) (fun _ _ _ h => h) (Or.inl ⟨by rfl, ?q1214h⟩) hHeld ?q1214r
            case q1214h => (intro wq hSw; clear hSw; go_simp; try with_reducible rfl)
            try simp only [Act.put, List.setIfInBounds_toArray, List.set_cons_zero, List.set_cons_succ]
            refine wpAnyH_ready (rs := [10]) (by kernel_rfl) (by simp) ?_
            refine AllReadyH.cons (o := { dst := none, op := Op.store 23 (Operand.tmp 62) (Operand.tmp 61), type := 0, pos := "locks.go:163", after := #[{ on := 9, ground := Ground.data }, { on := 8, ground := Ground.data }, { on := 8, ground := Ground.chain }, { on := 0, ground := Ground.phase }, { on := 1, ground := Ground.phase }, { on := 2, ground := Ground.phase }, { on := 3, ground := Ground.phase }, { on := 4, ground := Ground.phase }, { on := 5, ground := Ground.phase }, { on := 6, ground := Ground.phase }, { on := 7, ground := Ground.phase }, { on := 8, ground := Ground.phase }], guard := none }) rfl (fun K hK => ?_) (AllReadyH.nil)
            rw [if_pos (by rfl)]
            obtain ⟨a6, c6, rfl⟩ := own_slice ((HS323.out).own 6 rfl)
            have q5 := (HS323.out).at 0 rfl 1 rfl
            have f5 := (HS323.out).frozen 0 rfl 1
            go_simp
            clear q5 f5
            have HS324 : Hid (Hp w [.ob (w.heap.size) 25 (tbCells (.slice a t.held.length cap) (.slice a6 l6.length c6)), .ob b3 29 (grCells g), .ob b4 25 (tbCells (.slice none 0 0) (.slice none 0 0)), .rd R, .ob B87 29 (grCells wx), .ob B318 29 (([grCells g] : List (List Value)).flatMap id), .sl ((.slice a6 l6.length c6)) 29 4 (l6.length) (grRow l6)] (w322.setCell ⟨w.heap.size, 1, none⟩ (.slice a6 l6.length c6))) := (HS323.out).set 0 rfl 1 (.slice a6 l6.length c6)
            refine hK.out _ _ ((fun j v hv => by rw [Nat.zero_add]; exact (HS324.out).at 1 rfl j hv)) (fun hHeld => ?_)
            clear hK K
            generalize (w322.setCell ⟨w.heap.size, 1, none⟩ (.slice a6 l6.length c6)) = w323 at *
            try simp only [Act.put, List.setIfInBounds_toArray, List.set_cons_zero, List.set_cons_succ]
            refine wpAnyH_done (by kernel_rfl) ?_ _
            clear hHeld
            have HS325 : Hid (Hp w [.ob (w.heap.size) 25 (tbCells (.slice a t.held.length cap) (.slice a6 l6.length c6)), .ob b3 29 (grCells g), .ob b4 25 (tbCells (.slice none 0 0) (.slice none 0 0)), .rd R, .sl ((.slice a6 l6.length c6)) 29 4 (l6.length) (grRow l6)] w323) := HS324.out.pull [0, 1, 2, 3, 6] rfl (pull_nd HS324.out.nd [0, 1, 2, 3, 6] rfl (by decide))
            clear HS324
            obtain ⟨R7, h7, hn7, hs7⟩ := Hp.ownrd2 (A := [.ob (w.heap.size) 25 (tbCells (.slice a t.held.length cap) (.slice a6 l6.length c6)), .ob b3 29 (grCells g), .ob b4 25 (tbCells (.slice none 0 0) (.slice none 0 0)), .rd R]) HS325.out
            go_wp2_with fail
            go_meet
            exact ⟨a6, c6, R7, h7, hn7, hs7⟩
        · rw [if_pos (by rfl)]
          refine wp_build_obs rfl elem_gr HUX.out [grCells g] (List.forall_mem_cons.2 ⟨rfl, (fun _ h => absurd h List.not_mem_nil)⟩) (Nat.succ_pos _) (by simp only [List.length_cons, List.length_nil]; omega) rfl (by simp only [List.map_toArray, List.map_cons, List.map_nil, List.zipIdx_cons, List.zipIdx_nil]; exact rfl) ?_
          have HS319 : Hid (Hp w [.ob (w.heap.size) 25 (tbCells (.slice a t.held.length cap) (.slice a2 t.wait.length cap2)), .ob b3 29 (grCells g), .ob b4 25 (tbCells (.slice none 0 0) (.slice none 0 0)), .rd R, .ob B87 29 (grCells wx), .ob (w318.heap.size) 29 (([grCells g] : List (List Value)).flatMap id)] (w318.alloc (.cells (([grCells g] : List (List Value)).flatMap id).toArray 29))) := (HS318.out).put 29 (([grCells g] : List (List Value)).flatMap id)
          refine hK.out _ _ ((fun j v hv => by rw [Nat.zero_add]; exact (HS319.out).at 1 rfl j hv)) (fun hHeld => ?_)
          clear hK K
          generalize (w318.alloc (.cells (([grCells g] : List (List Value)).flatMap id).toArray 29)) = w319 at *
          generalize w318.heap.size = B318 at *
          try simp only [Act.put, List.setIfInBounds_toArray, List.set_cons_zero, List.set_cons_succ]
          refine wpAnyH_ready (rs := [1]) (by kernel_rfl) (by simp) ?_
          refine AllReadyH.cons (o := { dst := some 54, op := Op.load 23 (Operand.tmp 53), type := 23, pos := "locks.go:163", after := #[{ on := 0, ground := Ground.data }], guard := none }) rfl (fun K hK => ?_) (AllReadyH.nil)
          have q0 := (HS319.out).at 0 rfl 1 rfl
          go_simp
          clear q0
          have HS320 : Hid (Hp w [.ob (w.heap.size) 25 (tbCells (.slice a t.held.length cap) (.slice a2 t.wait.length cap2)), .ob b3 29 (grCells g), .ob b4 25 (tbCells (.slice none 0 0) (.slice none 0 0)), .rd R, .ob B87 29 (grCells wx), .ob B318 29 (([grCells g] : List (List Value)).flatMap id)] w319) := HS319.out
          refine hK.out _ _ ((fun j v hv => by rw [Nat.zero_add]; exact (HS320.out).at 1 rfl j hv)) (fun hHeld => ?_)
          clear hK K
          try simp only [Act.put, List.setIfInBounds_toArray, List.set_cons_zero, List.set_cons_succ]
          refine wpAnyH_ready (rs := [2]) (by kernel_rfl) (by simp) ?_
          refine AllReadyH.cons (o := { dst := some 55, op := Op.call { callee := Callee.value (Operand.func 47), args := #[Operand.tmp 54], argTypes := #[23] }, type := 23, pos := "locks.go:163", after := #[{ on := 1, ground := Ground.data }], guard := none }) rfl (fun K hK => ?_) (AllReadyH.nil)
          go_simp
          go_wp2_with (go_at_call 47; refine (HCl.out _ (HS320.out).old).mono ?_; rintro e w320 ⟨u0, rfl, hb, ho⟩)
          have HS321 : Hid (Hp w [.ob (w.heap.size) 25 (tbCells (.slice a t.held.length cap) (.slice a2 t.wait.length cap2)), .ob b3 29 (grCells g), .ob b4 25 (tbCells (.slice none 0 0) (.slice none 0 0)), .rd R, .ob B87 29 (grCells wx), .ob B318 29 (([grCells g] : List (List Value)).flatMap id), .sl u0 29 4 (t.wait.length) (grRow t.wait)] w320) := (HS320.out).addown hb ho
          refine hK.out _ _ ((fun j v hv => by rw [Nat.zero_add]; exact (HS321.out).at 1 rfl j hv)) (fun hHeld => ?_)
          clear hK K hb ho
          try simp only [Act.put, List.setIfInBounds_toArray, List.set_cons_zero, List.set_cons_succ]
          refine wpAnyH_ready (rs := [5]) (by kernel_rfl) (by simp) ?_
          refine AllReadyH.cons (o := { dst := some 58, op := Op.call { callee := Callee.value (Operand.func 48), args := #[Operand.tmp 56, Operand.tmp 57], argTypes := #[25, 29] }, type := 3, pos := "locks.go:163", after := #[{ on := 3, ground := Ground.data }, { on := 4, ground := Ground.data }, { on := 2, ground := Ground.chain }], guard := none }) rfl (fun K hK => ?_) (AllReadyH.nil)
          go_simp
          go_wp2_with (go_at_call 48; refine (HTu1.out _ (HS321.out).old).mono ?_; rintro e w321 ⟨rfl, hb⟩)
          have HS322 : Hid (Hp w [.ob (w.heap.size) 25 (tbCells (.slice a t.held.length cap) (.slice a2 t.wait.length cap2)), .ob b3 29 (grCells g), .ob b4 25 (tbCells (.slice none 0 0) (.slice none 0 0)), .rd R, .ob B87 29 (grCells wx), .ob B318 29 (([grCells g] : List (List Value)).flatMap id), .sl u0 29 4 (t.wait.length) (grRow t.wait)] w321) := (HS321.out).calls hb
          refine hK.out _ _ ((fun j v hv => by rw [Nat.zero_add]; exact (HS322.out).at 1 rfl j hv)) (fun hHeld => ?_)
          clear hK K hb
          try simp only [Act.put, List.setIfInBounds_toArray, List.set_cons_zero, List.set_cons_succ]
          refine wpAnyH_ready (rs := [8]) (by kernel_rfl) (by simp) ?_
          refine AllReadyH.cons (o := { dst := some 61, op := Op.call { callee := Callee.value (Operand.func 46), args := #[Operand.tmp 55, Operand.tmp 58, Operand.tmp 60], argTypes := #[23, 3, 23] }, type := 23, pos := "locks.go:163", after := #[{ on := 2, ground := Ground.data }, { on := 5, ground := Ground.data }, { on := 7, ground := Ground.data }, { on := 5, ground := Ground.chain }], guard := none }) rfl (fun K hK => ?_) (AllReadyH.nil)
          go_simp
          go_wp2_with (go_at_call 46; refine (insert_own t.wait g p u0 w.heap.size B318 _ HPl.out ((HS322.out).own 6 rfl) ((HS322.out).get 5 rfl) (fun e => (HS322.out).ne 6 5 rfl rfl (by decide) e rfl rfl) (HS322.out).old.size (by have := HLn.out; omega)).mono ?_; rintro e w322 ⟨u6, rfl, ho6, hg6, hub6⟩)
          rw [HL6.out] at ho6
          have HS323 : Hid (Hp w [.ob (w.heap.size) 25 (tbCells (.slice a t.held.length cap) (.slice a2 t.wait.length cap2)), .ob b3 29 (grCells g), .ob b4 25 (tbCells (.slice none 0 0) (.slice none 0 0)), .rd R, .ob B87 29 (grCells wx), .ob B318 29 (([grCells g] : List (List Value)).flatMap id), .sl u6 29 4 (l6.length) (grRow l6)] w322) := (HS322.out).grown2 6 rfl ho6 hg6 (fun b hb => hub6.elim (fun h => .inl (h ▸ hb)) (fun h => .inr (by rw [h] at hb; exact Nat.le_of_eq (Option.some.inj hb))))
          refine hK.out _ _ ((fun j v hv => by rw [Nat.zero_add]; exact (HS323.out).at 1 rfl j hv)) (fun hHeld => ?_)
          clear hK K ho6 hg6 hub6
          try simp only [Act.put, List.setIfInBounds_toArray, List.set_cons_zero, List.set_cons_succ]
          refine wpAnyH_take (i := 9) (oi := { dst := some 62, op := Op.fieldAddr 25 (Operand.tmp 2) 1, type := 0, pos := "locks.go:163", after := #[{ on := 0, ground := Ground.phase }, { on := 1, ground := Ground.phase }, { on := 2, ground := Ground.phase }, { on := 3, ground := Ground.phase }, { on := 4, ground := Ground.phase }, { on := 5, ground := Ground.phase }, { on := 6, ground := Ground.phase }, { on := 7, ground := Ground.phase }, { on := 8, ground := Ground.phase }], guard := none }) (v := ?q1215v) rfl (by kernel_rfl) (by kernel_rfl) (by kernel_rfl) (fun _ _ _ h => h) (Or.inl ⟨by rfl, ?q1215h⟩) hHeld ?q1215r
          case q1215h => (intro wq hSw; clear hSw; go_simp; try with_reducible rfl)
          try simp only [Act.put, List.setIfInBounds_toArray, List.set_cons_zero, List.set_cons_succ]
          refine wpAnyH_ready (rs := [10]) (by kernel_rfl) (by simp) ?_
          refine AllReadyH.cons (o := { dst := none, op := Op.store 23 (Operand.tmp 62) (Operand.tmp 61), type := 0, pos := "locks.go:163", after := #[{ on := 9, ground := Ground.data }, { on := 8, ground := Ground.data }, { on := 8, ground := Ground.chain }, { on := 0, ground := Ground.phase }, { on := 1, ground := Ground.phase }, { on := 2, ground := Ground.phase }, { on := 3, ground := Ground.phase }, { on := 4, ground := Ground.phase }, { on := 5, ground := Ground.phase }, { on := 6, ground := Ground.phase }, { on := 7, ground := Ground.phase }, { on := 8, ground := Ground.phase }], guard := none }) rfl (fun K hK => ?_) (AllReadyH.nil)
          rw [if_pos (by rfl)]
          obtain ⟨a6, c6, rfl⟩ := own_slice ((HS323.out).own 6 rfl)
          have q5 := (HS323.out).at 0 rfl 1 rfl
          have f5 := (HS323.out).frozen 0 rfl 1
          go_simp
          clear q5 f5
          have HS324 : Hid (Hp w [.ob (w.heap.size) 25 (tbCells (.slice a t.held.length cap) (.slice a6 l6.length c6)), .ob b3 29 (grCells g), .ob b4 25 (tbCells (.slice none 0 0) (.slice none 0 0)), .rd R, .ob B87 29 (grCells wx), .ob B318 29 (([grCells g] : List (List Value)).flatMap id), .sl ((.slice a6 l6.length c6)) 29 4 (l6.length) (grRow l6)] (w322.setCell ⟨w.heap.size, 1, none⟩ (.slice a6 l6.length c6))) := (HS323.out).set 0 rfl 1 (.slice a6 l6.length c6)
          refine hK.out _ _ ((fun j v hv => by rw [Nat.zero_add]; exact (HS324.out).at 1 rfl j hv)) (fun hHeld => ?_)
          clear hK K
          generalize (w322.setCell ⟨w.heap.size, 1, none⟩ (.slice a6 l6.length c6)) = w323 at *
          try simp only [Act.put, List.setIfInBounds_toArray, List.set_cons_zero, List.set_cons_succ]
          refine wpAnyH_done (by kernel_rfl) ?_ _
          clear hHeld
          have HS325 : Hid (Hp w [.ob (w.heap.size) 25 (tbCells (.slice a t.held.length cap) (.slice a6 l6.length c6)), .ob b3 29 (grCells g), .ob b4 25 (tbCells (.slice none 0 0) (.slice none 0 0)), .rd R, .sl ((.slice a6 l6.length c6)) 29 4 (l6.length) (grRow l6)] w323) := HS324.out.pull [0, 1, 2, 3, 6] rfl (pull_nd HS324.out.nd [0, 1, 2, 3, 6] rfl (by decide))
          clear HS324
          obtain ⟨R7, h7, hn7, hs7⟩ := Hp.ownrd2 (A := [.ob (w.heap.size) 25 (tbCells (.slice a t.held.length cap) (.slice a6 l6.length c6)), .ob b3 29 (grCells g), .ob b4 25 (tbCells (.slice none 0 0) (.slice none 0 0)), .rd R]) HS325.out
          go_wp2_with fail
          go_meet
          exact ⟨a6, c6, R7, h7, hn7, hs7⟩
      · rw [if_pos (by rfl)]
        refine wp_build_obs rfl elem_gr HUX.out [grCells g] (List.forall_mem_cons.2 ⟨rfl, (fun _ h => absurd h List.not_mem_nil)⟩) (Nat.succ_pos _) (by simp only [List.length_cons, List.length_nil]; omega) rfl (by simp only [List.map_toArray, List.map_cons, List.map_nil, List.zipIdx_cons, List.zipIdx_nil]; exact rfl) ?_
        have HS318 : Hid (Hp w [.ob (w.heap.size) 25 (tbCells (.slice a t.held.length cap) (.slice a2 t.wait.length cap2)), .ob b3 29 (grCells g), .ob b4 25 (tbCells (.slice none 0 0) (.slice none 0 0)), .rd R, .ob B87 29 (grCells wx), .ob (w272.drew.heap.size) 29 (([grCells g] : List (List Value)).flatMap id)] (w272.drew.alloc (.cells (([grCells g] : List (List Value)).flatMap id).toArray 29))) := ((HS272.out).drew).put 29 (([grCells g] : List (List Value)).flatMap id)
        refine hK.out _ _ ((fun j v hv => by rw [Nat.zero_add]; exact (HS318.out).at 1 rfl j hv)) (fun hHeld => ?_)
        clear hK K
        generalize (w272.drew.alloc (.cells (([grCells g] : List (List Value)).flatMap id).toArray 29)) = w318 at *
        generalize w272.drew.heap.size = B318 at *
        try simp only [Act.put, List.setIfInBounds_toArray, List.set_cons_zero, List.set_cons_succ]
        refine wpAnyH_ready (rs := [1, 3]) (by kernel_rfl) (by simp) ?_
        refine AllReadyH.cons (o := { dst := some 54, op := Op.load 23 (Operand.tmp 53), type := 23, pos := "locks.go:163", after := #[{ on := 0, ground := Ground.data }], guard := none }) rfl (fun K hK => ?_) (AllReadyH.cons (o := { dst := some 56, op := Op.load 25 (Operand.tmp 2), type := 25, pos := "locks.go:163", after := #[], guard := none }) rfl (fun K hK => ?_) (AllReadyH.nil))
        · have q0 := (HS318.out).at 0 rfl 1 rfl
          go_simp
          clear q0
          have HS319 : Hid (Hp w [.ob (w.heap.size) 25 (tbCells (.slice a t.held.length cap) (.slice a2 t.wait.length cap2)), .ob b3 29 (grCells g), .ob b4 25 (tbCells (.slice none 0 0) (.slice none 0 0)), .rd R, .ob B87 29 (grCells wx), .ob B318 29 (([grCells g] : List (List Value)).flatMap id)] w318) := HS318.out
          refine hK.out _ _ ((fun j v hv => by rw [Nat.zero_add]; exact (HS319.out).at 1 rfl j hv)) (fun hHeld => ?_)
          clear hK K
          try simp only [Act.put, List.setIfInBounds_toArray, List.set_cons_zero, List.set_cons_succ]
          refine wpAnyH_ready (rs := [2, 3]) (by kernel_rfl) (by simp) ?_
          refine AllReadyH.cons (o := { dst := some 55, op := Op.call { callee := Callee.value (Operand.func 47), args := #[Operand.tmp 54], argTypes := #[23] }, type := 23, pos := "locks.go:163", after := #[{ on := 1, ground := Ground.data }], guard := none }) rfl (fun K hK => ?_) (AllReadyH.cons (o := { dst := some 56, op := Op.load 25 (Operand.tmp 2), type := 25, pos := "locks.go:163", after := #[], guard := none }) rfl (fun K hK => ?_) (AllReadyH.nil))
          · go_simp
            go_wp2_with (go_at_call 47; refine (HCl.out _ (HS319.out).old).mono ?_; rintro e w319 ⟨u0, rfl, hb, ho⟩)
            have HS320 : Hid (Hp w [.ob (w.heap.size) 25 (tbCells (.slice a t.held.length cap) (.slice a2 t.wait.length cap2)), .ob b3 29 (grCells g), .ob b4 25 (tbCells (.slice none 0 0) (.slice none 0 0)), .rd R, .ob B87 29 (grCells wx), .ob B318 29 (([grCells g] : List (List Value)).flatMap id), .sl u0 29 4 (t.wait.length) (grRow t.wait)] w319) := (HS319.out).addown hb ho
            refine hK.out _ _ ((fun j v hv => by rw [Nat.zero_add]; exact (HS320.out).at 1 rfl j hv)) (fun hHeld => ?_)
            clear hK K hb ho
            try simp only [Act.put, List.setIfInBounds_toArray, List.set_cons_zero, List.set_cons_succ]
            refine wpAnyH_ready (rs := [3]) (by kernel_rfl) (by simp) ?_
            refine AllReadyH.cons (o := { dst := some 56, op := Op.load 25 (Operand.tmp 2), type := 25, pos := "locks.go:163", after := #[], guard := none }) rfl (fun K hK => ?_) (AllReadyH.nil)
            rw [if_pos (by rfl)]
            refine wp_load_whole 25 (.tmp 2) (w.heap.size) (tbCells (.slice a t.held.length cap) (.slice a2 t.wait.length cap2)) 25 HUT.out rfl rfl ((HS320.out).get 0 rfl) rfl (info_tb) ?_
            have HS321 : Hid (Hp w [.ob (w.heap.size) 25 (tbCells (.slice a t.held.length cap) (.slice a2 t.wait.length cap2)), .ob b3 29 (grCells g), .ob b4 25 (tbCells (.slice none 0 0) (.slice none 0 0)), .rd R, .ob B87 29 (grCells wx), .ob B318 29 (([grCells g] : List (List Value)).flatMap id), .sl u0 29 4 (t.wait.length) (grRow t.wait)] w319) := HS320.out
            refine hK.out _ _ ((fun j v hv => by rw [Nat.zero_add]; exact (HS321.out).at 1 rfl j hv)) (fun hHeld => ?_)
            clear hK K
            try simp only [Act.put, List.setIfInBounds_toArray, List.set_cons_zero, List.set_cons_succ]
            refine wpAnyH_ready (rs := [5]) (by kernel_rfl) (by simp) ?_
            refine AllReadyH.cons (o := { dst := some 58, op := Op.call { callee := Callee.value (Operand.func 48), args := #[Operand.tmp 56, Operand.tmp 57], argTypes := #[25, 29] }, type := 3, pos := "locks.go:163", after := #[{ on := 3, ground := Ground.data }, { on := 4, ground := Ground.data }, { on := 2, ground := Ground.chain }], guard := none }) rfl (fun K hK => ?_) (AllReadyH.nil)
            go_simp
            go_wp2_with (go_at_call 48; refine (HTu1.out _ (HS321.out).old).mono ?_; rintro e w320 ⟨rfl, hb⟩)
            have HS322 : Hid (Hp w [.ob (w.heap.size) 25 (tbCells (.slice a t.held.length cap) (.slice a2 t.wait.length cap2)), .ob b3 29 (grCells g), .ob b4 25 (tbCells (.slice none 0 0) (.slice none 0 0)), .rd R, .ob B87 29 (grCells wx), .ob B318 29 (([grCells g] : List (List Value)).flatMap id), .sl u0 29 4 (t.wait.length) (grRow t.wait)] w320) := (HS321.out).calls hb
            refine hK.out _ _ ((fun j v hv => by rw [Nat.zero_add]; exact (HS322.out).at 1 rfl j hv)) (fun hHeld => ?_)
            clear hK K hb
            try simp only [Act.put, List.setIfInBounds_toArray, List.set_cons_zero, List.set_cons_succ]
            refine wpAnyH_ready (rs := [8]) (by kernel_rfl) (by simp) ?_
            refine AllReadyH.cons (o := { dst := some 61, op := Op.call { callee := Callee.value (Operand.func 46), args := #[Operand.tmp 55, Operand.tmp 58, Operand.tmp 60], argTypes := #[23, 3, 23] }, type := 23, pos := "locks.go:163", after := #[{ on := 2, ground := Ground.data }, { on := 5, ground := Ground.data }, { on := 7, ground := Ground.data }, { on := 5, ground := Ground.chain }], guard := none }) rfl (fun K hK => ?_) (AllReadyH.nil)
            go_simp
            go_wp2_with (go_at_call 46; refine (insert_own t.wait g p u0 w.heap.size B318 _ HPl.out ((HS322.out).own 6 rfl) ((HS322.out).get 5 rfl) (fun e => (HS322.out).ne 6 5 rfl rfl (by decide) e rfl rfl) (HS322.out).old.size (by have := HLn.out; omega)).mono ?_; rintro e w321 ⟨u6, rfl, ho6, hg6, hub6⟩)
            rw [HL6.out] at ho6
            have HS323 : Hid (Hp w [.ob (w.heap.size) 25 (tbCells (.slice a t.held.length cap) (.slice a2 t.wait.length cap2)), .ob b3 29 (grCells g), .ob b4 25 (tbCells (.slice none 0 0) (.slice none 0 0)), .rd R, .ob B87 29 (grCells wx), .ob B318 29 (([grCells g] : List (List Value)).flatMap id), .sl u6 29 4 (l6.length) (grRow l6)] w321) := (HS322.out).grown2 6 rfl ho6 hg6 (fun b hb => hub6.elim (fun h => .inl (h ▸ hb)) (fun h => .inr (by rw [h] at hb; exact Nat.le_of_eq (Option.some.inj hb))))
            refine hK.out _ _ ((fun j v hv => by rw [Nat.zero_add]; exact (HS323.out).at 1 rfl j hv)) (fun hHeld => ?_)
            clear hK K ho6 hg6 hub6
            try simp only [Act.put, List.setIfInBounds_toArray, List.set_cons_zero, List.set_cons_succ]
            refine wpAnyH_take (i := 9) (oi := { dst := some 62, op := Op.fieldAddr 25 (Operand.tmp 2) 1, type := 0, pos := "locks.go:163", after := #[{ on := 0, ground := Ground.phase }, { on := 1, ground := Ground.phase }, { on := 2, ground := Ground.phase }, { on := 3, ground := Ground.phase }, { on := 4, ground := Ground.phase }, { on := 5, ground := Ground.phase }, { on := 6, ground := Ground.phase }, { on := 7, ground := Ground.phase }, { on := 8, ground := Ground.phase }], guard := none }) (v := ?q1216v) rfl (by kernel_rfl) (by kernel_rfl) (by kernel_rfl) (fun _ _ _ h => h) (Or.inl ⟨by rfl, ?q1216h⟩) hHeld ?q1216r
            case q1216h => (intro wq hSw; clear hSw; go_simp; try with_reducible rfl)
            try simp only [Act.put, List.setIfInBounds_toArray, List.set_cons_zero, List.set_cons_succ]
            refine wpAnyH_ready (rs := [10]) (by kernel_rfl) (by simp) ?_
            refine AllReadyH.cons (o := { dst := none, op := Op.store 23 (Operand.tmp 62) (Operand.tmp 61), type := 0, pos := "locks.go:163", after := #[{ on := 9, ground := Ground.data }, { on := 8, ground := Ground.data }, { on := 8, ground := Ground.chain }, { on := 0, ground := Ground.phase }, { on := 1, ground := Ground.phase }, { on := 2, ground := Ground.phase }, { on := 3, ground := Ground.phase }, { on := 4, ground := Ground.phase }, { on := 5, ground := Ground.phase }, { on := 6, ground := Ground.phase }, { on := 7, ground := Ground.phase }, { on := 8, ground := Ground.phase }], guard := none }) rfl (fun K hK => ?_) (AllReadyH.nil)
            rw [if_pos (by rfl)]
            obtain ⟨a6, c6, rfl⟩ := own_slice ((HS323.out).own 6 rfl)
            have q5 := (HS323.out).at 0 rfl 1 rfl
            have f5 := (HS323.out).frozen 0 rfl 1
            go_simp
            clear q5 f5
            have HS324 : Hid (Hp w [.ob (w.heap.size) 25 (tbCells (.slice a t.held.length cap) (.slice a6 l6.length c6)), .ob b3 29 (grCells g), .ob b4 25 (tbCells (.slice none 0 0) (.slice none 0 0)), .rd R, .ob B87 29 (grCells wx), .ob B318 29 (([grCells g] : List (List Value)).flatMap id), .sl ((.slice a6 l6.length c6)) 29 4 (l6.length) (grRow l6)] (w321.setCell ⟨w.heap.size, 1, none⟩ (.slice a6 l6.length c6))) := (HS323.out).set 0 rfl 1 (.slice a6 l6.length c6)
            refine hK.out _ _ ((fun j v hv => by rw [Nat.zero_add]; exact (HS324.out).at 1 rfl j hv)) (fun hHeld => ?_)
            clear hK K
            generalize (w321.setCell ⟨w.heap.size, 1, none⟩ (.slice a6 l6.length c6)) = w322 at *
            try simp only [Act.put, List.setIfInBounds_toArray, List.set_cons_zero, List.set_cons_succ]
            refine wpAnyH_done (by kernel_rfl) ?_ _
            clear hHeld
            have HS325 : Hid (Hp w [.ob (w.heap.size) 25 (tbCells (.slice a t.held.length cap) (.slice a6 l6.length c6)), .ob b3 29 (grCells g), .ob b4 25 (tbCells (.slice none 0 0) (.slice none 0 0)), .rd R, .sl ((.slice a6 l6.length c6)) 29 4 (l6.length) (grRow l6)] w322) := HS324.out.pull [0, 1, 2, 3, 6] rfl (pull_nd HS324.out.nd [0, 1, 2, 3, 6] rfl (by decide))
            clear HS324
            obtain ⟨R7, h7, hn7, hs7⟩ := Hp.ownrd2 (A := [.ob (w.heap.size) 25 (tbCells (.slice a t.held.length cap) (.slice a6 l6.length c6)), .ob b3 29 (grCells g), .ob b4 25 (tbCells (.slice none 0 0) (.slice none 0 0)), .rd R]) HS325.out
            go_wp2_with fail
            go_meet
            exact ⟨a6, c6, R7, h7, hn7, hs7⟩
          · rw [if_pos (by rfl)]
            refine wp_load_whole 25 (.tmp 2) (w.heap.size) (tbCells (.slice a t.held.length cap) (.slice a2 t.wait.length cap2)) 25 HUT.out rfl rfl ((HS319.out).get 0 rfl) rfl (info_tb) ?_
            have HS320 : Hid (Hp w [.ob (w.heap.size) 25 (tbCells (.slice a t.held.length cap) (.slice a2 t.wait.length cap2)), .ob b3 29 (grCells g), .ob b4 25 (tbCells (.slice none 0 0) (.slice none 0 0)), .rd R, .ob B87 29 (grCells wx), .ob B318 29 (([grCells g] : List (List Value)).flatMap id)] w318) := HS319.out
            refine hK.out _ _ ((fun j v hv => by rw [Nat.zero_add]; exact (HS320.out).at 1 rfl j hv)) (fun hHeld => ?_)
            clear hK K
            try simp only [Act.put, List.setIfInBounds_toArray, List.set_cons_zero, List.set_cons_succ]
            refine wpAnyH_ready (rs := [2]) (by kernel_rfl) (by simp) ?_
            refine AllReadyH.cons (o := { dst := some 55, op := Op.call { callee := Callee.value (Operand.func 47), args := #[Operand.tmp 54], argTypes := #[23] }, type := 23, pos := "locks.go:163", after := #[{ on := 1, ground := Ground.data }], guard := none }) rfl (fun K hK => ?_) (AllReadyH.nil)
            go_simp
            go_wp2_with (go_at_call 47; refine (HCl.out _ (HS320.out).old).mono ?_; rintro e w319 ⟨u0, rfl, hb, ho⟩)
            have HS321 : Hid (Hp w [.ob (w.heap.size) 25 (tbCells (.slice a t.held.length cap) (.slice a2 t.wait.length cap2)), .ob b3 29 (grCells g), .ob b4 25 (tbCells (.slice none 0 0) (.slice none 0 0)), .rd R, .ob B87 29 (grCells wx), .ob B318 29 (([grCells g] : List (List Value)).flatMap id), .sl u0 29 4 (t.wait.length) (grRow t.wait)] w319) := (HS320.out).addown hb ho
            refine hK.out _ _ ((fun j v hv => by rw [Nat.zero_add]; exact (HS321.out).at 1 rfl j hv)) (fun hHeld => ?_)
            clear hK K hb ho
            try simp only [Act.put, List.setIfInBounds_toArray, List.set_cons_zero, List.set_cons_succ]
            refine wpAnyH_ready (rs := [5]) (by kernel_rfl) (by simp) ?_
            refine AllReadyH.cons (o := { dst := some 58, op := Op.call { callee := Callee.value (Operand.func 48), args := #[Operand.tmp 56, Operand.tmp 57], argTypes := #[25, 29] }, type := 3, pos := "locks.go:163", after := #[{ on := 3, ground := Ground.data }, { on := 4, ground := Ground.data }, { on := 2, ground := Ground.chain }], guard := none }) rfl (fun K hK => ?_) (AllReadyH.nil)
            go_simp
            go_wp2_with (go_at_call 48; refine (HTu1.out _ (HS321.out).old).mono ?_; rintro e w320 ⟨rfl, hb⟩)
            have HS322 : Hid (Hp w [.ob (w.heap.size) 25 (tbCells (.slice a t.held.length cap) (.slice a2 t.wait.length cap2)), .ob b3 29 (grCells g), .ob b4 25 (tbCells (.slice none 0 0) (.slice none 0 0)), .rd R, .ob B87 29 (grCells wx), .ob B318 29 (([grCells g] : List (List Value)).flatMap id), .sl u0 29 4 (t.wait.length) (grRow t.wait)] w320) := (HS321.out).calls hb
            refine hK.out _ _ ((fun j v hv => by rw [Nat.zero_add]; exact (HS322.out).at 1 rfl j hv)) (fun hHeld => ?_)
            clear hK K hb
            try simp only [Act.put, List.setIfInBounds_toArray, List.set_cons_zero, List.set_cons_succ]
            refine wpAnyH_ready (rs := [8]) (by kernel_rfl) (by simp) ?_
            refine AllReadyH.cons (o := { dst := some 61, op := Op.call { callee := Callee.value (Operand.func 46), args := #[Operand.tmp 55, Operand.tmp 58, Operand.tmp 60], argTypes := #[23, 3, 23] }, type := 23, pos := "locks.go:163", after := #[{ on := 2, ground := Ground.data }, { on := 5, ground := Ground.data }, { on := 7, ground := Ground.data }, { on := 5, ground := Ground.chain }], guard := none }) rfl (fun K hK => ?_) (AllReadyH.nil)
            go_simp
            go_wp2_with (go_at_call 46; refine (insert_own t.wait g p u0 w.heap.size B318 _ HPl.out ((HS322.out).own 6 rfl) ((HS322.out).get 5 rfl) (fun e => (HS322.out).ne 6 5 rfl rfl (by decide) e rfl rfl) (HS322.out).old.size (by have := HLn.out; omega)).mono ?_; rintro e w321 ⟨u6, rfl, ho6, hg6, hub6⟩)
            rw [HL6.out] at ho6
            have HS323 : Hid (Hp w [.ob (w.heap.size) 25 (tbCells (.slice a t.held.length cap) (.slice a2 t.wait.length cap2)), .ob b3 29 (grCells g), .ob b4 25 (tbCells (.slice none 0 0) (.slice none 0 0)), .rd R, .ob B87 29 (grCells wx), .ob B318 29 (([grCells g] : List (List Value)).flatMap id), .sl u6 29 4 (l6.length) (grRow l6)] w321) := (HS322.out).grown2 6 rfl ho6 hg6 (fun b hb => hub6.elim (fun h => .inl (h ▸ hb)) (fun h => .inr (by rw [h] at hb; exact Nat.le_of_eq (Option.some.inj hb))))
            refine hK.out _ _ ((fun j v hv => by rw [Nat.zero_add]; exact (HS323.out).at 1 rfl j hv)) (fun hHeld => ?_)
            clear hK K ho6 hg6 hub6
            try simp only [Act.put, List.setIfInBounds_toArray, List.set_cons_zero, List.set_cons_succ]
            refine wpAnyH_take (i := 9) (oi := { dst := some 62, op := Op.fieldAddr 25 (Operand.tmp 2) 1, type := 0, pos := "locks.go:163", after := #[{ on := 0, ground := Ground.phase }, { on := 1, ground := Ground.phase }, { on := 2, ground := Ground.phase }, { on := 3, ground := Ground.phase }, { on := 4, ground := Ground.phase }, { on := 5, ground := Ground.phase }, { on := 6, ground := Ground.phase }, { on := 7, ground := Ground.phase }, { on := 8, ground := Ground.phase }], guard := none }) (v := ?q1217v) rfl (by kernel_rfl) (by kernel_rfl) (by kernel_rfl) (fun _ _ _ h => h) (Or.inl ⟨by rfl, ?q1217h⟩) hHeld ?q1217r
            case q1217h => (intro wq hSw; clear hSw; go_simp; try with_reducible rfl)
            try simp only [Act.put, List.setIfInBounds_toArray, List.set_cons_zero, List.set_cons_succ]
            refine wpAnyH_ready (rs := [10]) (by kernel_rfl) (by simp) ?_
            refine AllReadyH.cons (o := { dst := none, op := Op.store 23 (Operand.tmp 62) (Operand.tmp 61), type := 0, pos := "locks.go:163", after := #[{ on := 9, ground := Ground.data }, { on := 8, ground := Ground.data }, { on := 8, ground := Ground.chain }, { on := 0, ground := Ground.phase }, { on := 1, ground := Ground.phase }, { on := 2, ground := Ground.phase }, { on := 3, ground := Ground.phase }, { on := 4, ground := Ground.phase }, { on := 5, ground := Ground.phase }, { on := 6, ground := Ground.phase }, { on := 7, ground := Ground.phase }, { on := 8, ground := Ground.phase }], guard := none }) rfl (fun K hK => ?_) (AllReadyH.nil)
            rw [if_pos (by rfl)]
            obtain ⟨a6, c6, rfl⟩ := own_slice ((HS323.out).own 6 rfl)
            have q5 := (HS323.out).at 0 rfl 1 rfl
            have f5 := (HS323.out).frozen 0 rfl 1
            go_simp
            clear q5 f5
            have HS324 : Hid (Hp w [.ob (w.heap.size) 25 (tbCells (.slice a t.held.length cap) (.slice a6 l6.length c6)), .ob b3 29 (grCells g), .ob b4 25 (tbCells (.slice none 0 0) (.slice none 0 0)), .rd R, .ob B87 29 (grCells wx), .ob B318 29 (([grCells g] : List (List Value)).flatMap id), .sl ((.slice a6 l6.length c6)) 29 4 (l6.length) (grRow l6)] (w321.setCell ⟨w.heap.size, 1, none⟩ (.slice a6 l6.length c6))) := (HS323.out).set 0 rfl 1 (.slice a6 l6.length c6)
            refine hK.out _ _ ((fun j v hv => by rw [Nat.zero_add]; exact (HS324.out).at 1 rfl j hv)) (fun hHeld => ?_)
            clear hK K
            generalize (w321.setCell ⟨w.heap.size, 1, none⟩ (.slice a6 l6.length c6)) = w322 at *
            try simp only [Act.put, List.setIfInBounds_toArray, List.set_cons_zero, List.set_cons_succ]
            refine wpAnyH_done (by kernel_rfl) ?_ _
            clear hHeld
            have HS325 : Hid (Hp w [.ob (w.heap.size) 25 (tbCells (.slice a t.held.length cap) (.slice a6 l6.length c6)), .ob b3 29 (grCells g), .ob b4 25 (tbCells (.slice none 0 0) (.slice none 0 0)), .rd R, .sl ((.slice a6 l6.length c6)) 29 4 (l6.length) (grRow l6)] w322) := HS324.out.pull [0, 1, 2, 3, 6] rfl (pull_nd HS324.out.nd [0, 1, 2, 3, 6] rfl (by decide))
            clear HS324
            obtain ⟨R7, h7, hn7, hs7⟩ := Hp.ownrd2 (A := [.ob (w.heap.size) 25 (tbCells (.slice a t.held.length cap) (.slice a6 l6.length c6)), .ob b3 29 (grCells g), .ob b4 25 (tbCells (.slice none 0 0) (.slice none 0 0)), .rd R]) HS325.out
            go_wp2_with fail
            go_meet
            exact ⟨a6, c6, R7, h7, hn7, hs7⟩
        · rw [if_pos (by rfl)]
          refine wp_load_whole 25 (.tmp 2) (w.heap.size) (tbCells (.slice a t.held.length cap) (.slice a2 t.wait.length cap2)) 25 HUT.out rfl rfl ((HS318.out).get 0 rfl) rfl (info_tb) ?_
          have HS319 : Hid (Hp w [.ob (w.heap.size) 25 (tbCells (.slice a t.held.length cap) (.slice a2 t.wait.length cap2)), .ob b3 29 (grCells g), .ob b4 25 (tbCells (.slice none 0 0) (.slice none 0 0)), .rd R, .ob B87 29 (grCells wx), .ob B318 29 (([grCells g] : List (List Value)).flatMap id)] w318) := HS318.out
          refine hK.out _ _ ((fun j v hv => by rw [Nat.zero_add]; exact (HS319.out).at 1 rfl j hv)) (fun hHeld => ?_)
          clear hK K
          try simp only [Act.put, List.setIfInBounds_toArray, List.set_cons_zero, List.set_cons_succ]
          refine wpAnyH_ready (rs := [1]) (by kernel_rfl) (by simp) ?_
          refine AllReadyH.cons (o := { dst := some 54, op := Op.load 23 (Operand.tmp 53), type := 23, pos := "locks.go:163", after := #[{ on := 0, ground := Ground.data }], guard := none }) rfl (fun K hK => ?_) (AllReadyH.nil)
          have q0 := (HS319.out).at 0 rfl 1 rfl
          go_simp
          clear q0
          have HS320 : Hid (Hp w [.ob (w.heap.size) 25 (tbCells (.slice a t.held.length cap) (.slice a2 t.wait.length cap2)), .ob b3 29 (grCells g), .ob b4 25 (tbCells (.slice none 0 0) (.slice none 0 0)), .rd R, .ob B87 29 (grCells wx), .ob B318 29 (([grCells g] : List (List Value)).flatMap id)] w318) := HS319.out
          refine hK.out _ _ ((fun j v hv => by rw [Nat.zero_add]; exact (HS320.out).at 1 rfl j hv)) (fun hHeld => ?_)
          clear hK K
          try simp only [Act.put, List.setIfInBounds_toArray, List.set_cons_zero, List.set_cons_succ]
          refine wpAnyH_ready (rs := [2]) (by kernel_rfl) (by simp) ?_
          refine AllReadyH.cons (o := { dst := some 55, op := Op.call { callee := Callee.value (Operand.func 47), args := #[Operand.tmp 54], argTypes := #[23] }, type := 23, pos := "locks.go:163", after := #[{ on := 1, ground := Ground.data }], guard := none }) rfl (fun K hK => ?_) (AllReadyH.nil)
          go_simp
          go_wp2_with (go_at_call 47; refine (HCl.out _ (HS320.out).old).mono ?_; rintro e w319 ⟨u0, rfl, hb, ho⟩)
          have HS321 : Hid (Hp w [.ob (w.heap.size) 25 (tbCells (.slice a t.held.length cap) (.slice a2 t.wait.length cap2)), .ob b3 29 (grCells g), .ob b4 25 (tbCells (.slice none 0 0) (.slice none 0 0)), .rd R, .ob B87 29 (grCells wx), .ob B318 29 (([grCells g] : List (List Value)).flatMap id), .sl u0 29 4 (t.wait.length) (grRow t.wait)] w319) := (HS320.out).addown hb ho
          refine hK.out _ _ ((fun j v hv => by rw [Nat.zero_add]; exact (HS321.out).at 1 rfl j hv)) (fun hHeld => ?_)
          clear hK K hb ho
          try simp only [Act.put, List.setIfInBounds_toArray, List.set_cons_zero, List.set_cons_succ]
          refine wpAnyH_ready (rs := [5]) (by kernel_rfl) (by simp) ?_
          refine AllReadyH.cons (o := { dst := some 58, op := Op.call { callee := Callee.value (Operand.func 48), args := #[Operand.tmp 56, Operand.tmp 57], argTypes := #[25, 29] }, type := 3, pos := "locks.go:163", after := #[{ on := 3, ground := Ground.data }, { on := 4, ground := Ground.data }, { on := 2, ground := Ground.chain }], guard := none }) rfl (fun K hK => ?_) (AllReadyH.nil)
          go_simp
          go_wp2_with (go_at_call 48; refine (HTu1.out _ (HS321.out).old).mono ?_; rintro e w320 ⟨rfl, hb⟩)
          have HS322 : Hid (Hp w [.ob (w.heap.size) 25 (tbCells (.slice a t.held.length cap) (.slice a2 t.wait.length cap2)), .ob b3 29 (grCells g), .ob b4 25 (tbCells (.slice none 0 0) (.slice none 0 0)), .rd R, .ob B87 29 (grCells wx), .ob B318 29 (([grCells g] : List (List Value)).flatMap id), .sl u0 29 4 (t.wait.length) (grRow t.wait)] w320) := (HS321.out).calls hb
          refine hK.out _ _ ((fun j v hv => by rw [Nat.zero_add]; exact (HS322.out).at 1 rfl j hv)) (fun hHeld => ?_)
          clear hK K hb
          try simp only [Act.put, List.setIfInBounds_toArray, List.set_cons_zero, List.set_cons_succ]
          refine wpAnyH_ready (rs := [8]) (by kernel_rfl) (by simp) ?_
          refine AllReadyH.cons (o := { dst := some 61, op := Op.call { callee := Callee.value (Operand.func 46), args := #[Operand.tmp 55, Operand.tmp 58, Operand.tmp 60], argTypes := #[23, 3, 23] }, type := 23, pos := "locks.go:163", after := #[{ on := 2, ground := Ground.data }, { on := 5, ground := Ground.data }, { on := 7, ground := Ground.data }, { on := 5, ground := Ground.chain }], guard := none }) rfl (fun K hK => ?_) (AllReadyH.nil)
          go_simp
          go_wp2_with (go_at_call 46; refine (insert_own t.wait g p u0 w.heap.size B318 _ HPl.out ((HS322.out).own 6 rfl) ((HS322.out).get 5 rfl) (fun e => (HS322.out).ne 6 5 rfl rfl (by decide) e rfl rfl) (HS322.out).old.size (by have := HLn.out; omega)).mono ?_; rintro e w321 ⟨u6, rfl, ho6, hg6, hub6⟩)
          rw [HL6.out] at ho6
          have HS323 : Hid (Hp w [.ob (w.heap.size) 25 (tbCells (.slice a t.held.length cap) (.slice a2 t.wait.length cap2)), .ob b3 29 (grCells g), .ob b4 25 (tbCells (.slice none 0 0) (.slice none 0 0)), .rd R, .ob B87 29 (grCells wx), .ob B318 29 (([grCells g] : List (List Value)).flatMap id), .sl u6 29 4 (l6.length) (grRow l6)] w321) := (HS322.out).grown2 6 rfl ho6 hg6 (fun b hb => hub6.elim (fun h => .inl (h ▸ hb)) (fun h => .inr (by rw [h] at hb; exact Nat.le_of_eq (Option.some.inj hb))))
          refine hK.out _ _ ((fun j v hv => by rw [Nat.zero_add]; exact (HS323.out).at 1 rfl j hv)) (fun hHeld => ?_)
          clear hK K ho6 hg6 hub6
          try simp only [Act.put, List.setIfInBounds_toArray, List.set_cons_zero, List.set_cons_succ]
          refine wpAnyH_take (i := 9) (oi := { dst := some 62, op := Op.fieldAddr 25 (Operand.tmp 2) 1, type := 0, pos := "locks.go:163", after := #[{ on := 0, ground := Ground.phase }, { on := 1, ground := Ground.phase }, { on := 2, ground := Ground.phase }, { on := 3, ground := Ground.phase }, { on := 4, ground := Ground.phase }, { on := 5, ground := Ground.phase }, { on := 6, ground := Ground.phase }, { on := 7, ground := Ground.phase }, { on := 8, ground := Ground.phase }], guard := none }) (v := ?q1218v) rfl (by kernel_rfl) (by kernel_rfl) (by kernel_rfl) (fun _ _ _ h => h) (Or.inl ⟨by rfl, ?q1218h⟩) hHeld ?q1218r
          case q1218h => (intro wq hSw; clear hSw; go_simp; try with_reducible rfl)
          try simp only [Act.put, List.setIfInBounds_toArray, List.set_cons_zero, List.set_cons_succ]
          refine wpAnyH_ready (rs := [10]) (by kernel_rfl) (by simp) ?_
          refine AllReadyH.cons (o := { dst := none, op := Op.store 23 (Operand.tmp 62) (Operand.tmp 61), type := 0, pos := "locks.go:163", after := #[{ on := 9, ground := Ground.data }, { on := 8, ground := Ground.data }, { on := 8, ground := Ground.chain }, { on := 0, ground := Ground.phase }, { on := 1, ground := Ground.phase }, { on := 2, ground := Ground.phase }, { on := 3, ground := Ground.phase }, { on := 4, ground := Ground.phase }, { on := 5, ground := Ground.phase }, { on := 6, ground := Ground.phase }, { on := 7, ground := Ground.phase }, { on := 8, ground := Ground.phase }], guard := none }) rfl (fun K hK => ?_) (AllReadyH.nil)
          rw [if_pos (by rfl)]
          obtain ⟨a6, c6, rfl⟩ := own_slice ((HS323.out).own 6 rfl)
          have q5 := (HS323.out).at 0 rfl 1 rfl
          have f5 := (HS323.out).frozen 0 rfl 1
          go_simp
          clear q5 f5
          have HS324 : Hid (Hp w [.ob (w.heap.size) 25 (tbCells (.slice a t.held.length cap) (.slice a6 l6.length c6)), .ob b3 29 (grCells g), .ob b4 25 (tbCells (.slice none 0 0) (.slice none 0 0)), .rd R, .ob B87 29 (grCells wx), .ob B318 29 (([grCells g] : List (List Value)).flatMap id), .sl ((.slice a6 l6.length c6)) 29 4 (l6.length) (grRow l6)] (w321.setCell ⟨w.heap.size, 1, none⟩ (.slice a6 l6.length c6))) := (HS323.out).set 0 rfl 1 (.slice a6 l6.length c6)
          refine hK.out _ _ ((fun j v hv => by rw [Nat.zero_add]; exact (HS324.out).at 1 rfl j hv)) (fun hHeld => ?_)
          clear hK K
          generalize (w321.setCell ⟨w.heap.size, 1, none⟩ (.slice a6 l6.length c6)) = w322 at *
          try simp only [Act.put, List.setIfInBounds_toArray, List.set_cons_zero, List.set_cons_succ]
          refine wpAnyH_done (by kernel_rfl) ?_ _
          clear hHeld
          have HS325 : Hid (Hp w [.ob (w.heap.size) 25 (tbCells (.slice a t.held.length cap) (.slice a6 l6.length c6)), .ob b3 29 (grCells g), .ob b4 25 (tbCells (.slice none 0 0) (.slice none 0 0)), .rd R, .sl ((.slice a6 l6.length c6)) 29 4 (l6.length) (grRow l6)] w322) := HS324.out.pull [0, 1, 2, 3, 6] rfl (pull_nd HS324.out.nd [0, 1, 2, 3, 6] rfl (by decide))
          clear HS324
          obtain ⟨R7, h7, hn7, hs7⟩ := Hp.ownrd2 (A := [.ob (w.heap.size) 25 (tbCells (.slice a t.held.length cap) (.slice a6 l6.length c6)), .ob b3 29 (grCells g), .ob b4 25 (tbCells (.slice none 0 0) (.slice none 0 0)), .rd R]) HS325.out
          go_wp2_with fail
          go_meet
          exact ⟨a6, c6, R7, h7, hn7, hs7⟩
    case rest =>
      obtain ⟨a6, c6, R7, h7, hn7, hs7⟩ := hcut
      have HR7 := Lib.hid h7
      have HN7 := Lib.hid hn7
      have HS7 : Hid (Hp w [.ob (w.heap.size) 25 (tbCells (.slice a t.held.length cap) (.slice a6 l6.length c6)), .ob b3 29 (grCells g), .ob b4 25 (tbCells (.slice none 0 0) (.slice none 0 0)), .rd R, .rd R7] wc) := hs7
      clear h7 hn7 hs7 HCl HTu1
      generalize wc = w700 at *
      have hi9 : TbIn ⟨t.held, l6⟩ := by have := HIn.out; rwa [HAe.out] at this
      have HE2 : Hid (rq = (settleR ⟨t.held, l6⟩, decide (g.mode ≤ modeG (settleR ⟨t.held, l6⟩).held g), 0)) := Lib.hid (by rw [HE.out, HAe.out])
      have HIn2 := Lib.hid hi9
      have HFw : Hid (t.held.length + l6.length ≤ 2000) := Lib.hid (by have h1 := congrArg List.length HL6.out; have h2 := HLn.out; rw [insG_len] at h1; omega)
      have HSe : Hid (∀ W, RdIn W (R ++ R7) → Calls Try.prog 38 #[.agg (tbCells (.slice a t.held.length cap) (.slice a6 l6.length c6)).toArray] W (TbNew W (settleR ⟨t.held, l6⟩))) := fun W h2 => settled_any (R := R ++ R7) W ⟨SlRd.mono HT.out.1 (fun r hr => by simp [hr]), SlRd.mono HR7.out (fun r hr => by simp [hr])⟩ h2 HIn2.out (by have := HFw.out; simp only; omega)
      have hi8 := settle_in HIn2.out
      have hl8 := settle_len HIn2.out
      have HGs := Lib.hid (hi8.good (by have := HFw.out; simp only at hl8; omega))
      have HUp := Lib.hid hi8.held.up
      have HSm := Lib.hid (settle_mode HIn2.out (g := g) (by show g ∈ l6; rw [← HL6.out]; exact mem_insG _ _ _))
      generalize settleR ⟨t.held, l6⟩ = u at *
      clear HE HAe hi9 hi8 hl8
      go_wp2_with (first | ((with_reducible refine wpList_load_ob 25 (.tmp 2) (w.heap.size) (tbCells (.slice a t.held.length cap) (.slice a6 l6.length c6)) 25 HUT.out ?_ ?_ ?_ ?_ ?_); (exact rfl); (exact (HS7.out).get 0 rfl); (exact rfl); (exact info_tb); simp only [Act.put, List.setIfInBounds_toArray, List.set_cons_zero, List.set_cons_succ]))
      refine (HSe.out _ (RdIn.append ((HS7.out).reads 3 rfl) ((HS7.out).reads 4 rfl))).mono ?_
      rintro e w731 ⟨h9, v9, R9, rfl, hrd2, hin2, hnew2, hb⟩
      obtain ⟨a9, c9, rfl, _, _⟩ := hrd2.1.shape
      obtain ⟨b9, d9, rfl, _, _⟩ := hrd2.2.shape
      have H9 := Lib.hid hrd2
      have HN9 : Hid (∀ r ∈ R9, w.heap.size ≤ r.1) := fun r hr => Nat.le_trans (HS7.out).old.size (hnew2 r hr)
      have HS731 : Hid (Hp w [.ob (w.heap.size) 25 (tbCells (.slice a t.held.length cap) (.slice a6 l6.length c6)), .ob b3 29 (grCells g), .ob b4 25 (tbCells (.slice none 0 0) (.slice none 0 0)), .rd R, .rd R7, .rd R9] w731) := (HS7.out).addrd hb R9 hin2 (fun r hr => .inl (hnew2 r hr))
      clear hb hin2 hnew2 hrd2
      clear HS7
      go_upto_region 16 with (first | ((with_reducible refine wpList_store_ob 25 (.tmp 2) (w.heap.size) (tbCells (.slice a9 u.held.length c9) (.slice b9 u.wait.length d9)) (tbCells (.slice a t.held.length cap) (.slice a6 l6.length c6)) 25 ?_ ?_ ?_ ?_ ?_ ?_ ?_); (exact rfl); (exact rfl); (exact (HS731.out).get 0 rfl); (exact info_tb); (exact rfl); (exact (oneCell_tb _ _ _ _ _ _)); skip))
      have HS732 : Hid (Hp w [.ob (w.heap.size) 25 (tbCells (.slice a9 u.held.length c9) (.slice b9 u.wait.length d9)), .ob b3 29 (grCells g), .ob b4 25 (tbCells (.slice none 0 0) (.slice none 0 0)), .rd R, .rd R7, .rd R9] (w731.setRow (w.heap.size) (tbCells (.slice a9 u.held.length c9) (.slice b9 u.wait.length d9)).toArray)) := (HS731.out).row 0 rfl (tbCells (.slice a9 u.held.length c9) (.slice b9 u.wait.length d9))
      clear HSe
      clear HS731
      generalize (w731.setRow (w.heap.size) (tbCells (.slice a9 u.held.length c9) (.slice b9 u.wait.length d9)).toArray) = w732 at *
      have HMu : Hid (∀ W, RdIn W R9 → Calls Try.prog 44 #[.slice a9 u.held.length c9, .int .i64 g.tx, .agg (lkCells g.lock).toArray] W fun e w' => e = .returned (.int .i64 (modeG u.held g)) ∧ Below W.heap.size W w') := fun W h2 => pmode_any g.tx g.lock u.held _ R9 W HUp.out H9.out.1 h2 (by have := HGs.out.few; omega)
      generalize modeG u.held g = mu at *
      obtain ⟨q, hq⟩ : ∃ q, (mu == g.mode) = q := ⟨_, rfl⟩
      rw [← HSm.out, hq] at HE2
      refine wp_region_held_drew (S := fun w' => w'.rangeAt w.heap.size 0 (tbCells (.slice a9 u.held.length c9) (.slice b9 u.wait.length d9)) ∧ w'.rangeAt b3 0 (grCells g)) (by kernel_rfl) (⟨(fun j v hv => by rw [Nat.zero_add]; exact ((HS732.out).drew).at 0 rfl j hv), (fun j v hv => by rw [Nat.zero_add]; exact ((HS732.out).drew).at 1 rfl j hv)⟩) (fun hHeld => ?_)
      refine wpAnyH_take (i := 0) (oi := { dst := some 65, op := Op.load 25 (Operand.tmp 2), type := 25, pos := "locks.go:165", after := #[], guard := none }) rfl (by kernel_rfl) (by kernel_rfl) (by kernel_rfl) (fun _ _ _ h => h) (yieldsIf_load_mid (by rfl) 25 (.tmp 2) rfl w.heap.size (0) rfl (tbCells (.slice a9 u.held.length c9) (.slice b9 u.wait.length d9)) _ (fun _ h => h.1) HUT.out rfl (info_tb)) hHeld ?_
      try simp only [Act.put, List.setIfInBounds_toArray, List.set_cons_zero, List.set_cons_succ]
      refine wpAnyH_take (i := 1) (oi := { dst := some 66, op := Op.fieldAddr 25 (Operand.tmp 2) 0, type := 0, pos := "locks.go:165", after := #[], guard := none }) (v := ?q1402v) rfl (by kernel_rfl) (by kernel_rfl) (by kernel_rfl) (fun _ _ _ h => h) (Or.inl ⟨by rfl, ?q1402h⟩) hHeld ?q1402r
      case q1402h => (intro wq hSw; clear hSw; go_simp; try with_reducible rfl)
      try simp only [Act.put, List.setIfInBounds_toArray, List.set_cons_zero, List.set_cons_succ]
      refine wpAnyH_take (i := 2) (oi := { dst := some 67, op := Op.load 23 (Operand.tmp 66), type := 23, pos := "locks.go:165", after := #[{ on := 1, ground := Ground.data }], guard := none }) (v := .slice a9 u.held.length c9) rfl (by kernel_rfl) (by kernel_rfl) (by kernel_rfl) (fun _ _ _ h => h) (Or.inl ⟨by rfl, ?q1403h⟩) hHeld ?q1403r
      case q1403h => (intro wq hSw; have lq := (hSw.1) 0 (.slice a9 u.held.length c9) rfl; simp only [Nat.zero_add] at lq; clear hSw; go_simp; try with_reducible rfl)
      try simp only [Act.put, List.setIfInBounds_toArray, List.set_cons_zero, List.set_cons_succ]
      refine wpAnyH_take (i := 3) (oi := { dst := some 68, op := Op.fieldAddr 29 (Operand.tmp 3) 0, type := 0, pos := "locks.go:165", after := #[], guard := none }) (v := ?q1404v) rfl (by kernel_rfl) (by kernel_rfl) (by kernel_rfl) (fun _ _ _ h => h) (Or.inl ⟨by rfl, ?q1404h⟩) hHeld ?q1404r
      case q1404h => (intro wq hSw; clear hSw; go_simp; try with_reducible rfl)
      try simp only [Act.put, List.setIfInBounds_toArray, List.set_cons_zero, List.set_cons_succ]
      refine wpAnyH_take (i := 4) (oi := { dst := some 69, op := Op.load 3 (Operand.tmp 68), type := 3, pos := "locks.go:165", after := #[{ on := 3, ground := Ground.data }], guard := none }) (v := .int .i64 g.tx) rfl (by kernel_rfl) (by kernel_rfl) (by kernel_rfl) (fun _ _ _ h => h) (Or.inl ⟨by rfl, ?q1405h⟩) hHeld ?q1405r
      case q1405h => (intro wq hSw; have lq := (hSw.2) 0 (.int .i64 g.tx) rfl; simp only [Nat.zero_add] at lq; clear hSw; go_simp; try with_reducible rfl)
      try simp only [Act.put, List.setIfInBounds_toArray, List.set_cons_zero, List.set_cons_succ]
      refine wpAnyH_take (i := 5) (oi := { dst := some 70, op := Op.fieldAddr 29 (Operand.tmp 3) 1, type := 0, pos := "locks.go:165", after := #[], guard := none }) (v := ?q1406v) rfl (by kernel_rfl) (by kernel_rfl) (by kernel_rfl) (fun _ _ _ h => h) (Or.inl ⟨by rfl, ?q1406h⟩) hHeld ?q1406r
      case q1406h => (intro wq hSw; clear hSw; go_simp; try with_reducible rfl)
      try simp only [Act.put, List.setIfInBounds_toArray, List.set_cons_zero, List.set_cons_succ]
      refine wpAnyH_take (i := 6) (oi := { dst := some 71, op := Op.load 27 (Operand.tmp 70), type := 27, pos := "locks.go:165", after := #[{ on := 5, ground := Ground.data }], guard := none }) rfl (by kernel_rfl) (by kernel_rfl) (by kernel_rfl) (fun _ _ _ h => h) (yieldsIf_load_mid (by rfl) 27 (.tmp 70) rfl b3 (1) rfl (lkCells g.lock) _ (fun _ h => range_part (h.2) (mid_lk g)) HUK.out rfl (info_lk)) hHeld ?_
      try simp only [Act.put, List.setIfInBounds_toArray, List.set_cons_zero, List.set_cons_succ]
      refine wpAnyH_take (i := 8) (oi := { dst := some 73, op := Op.fieldAddr 29 (Operand.tmp 3) 2, type := 0, pos := "locks.go:165", after := #[{ on := 11, ground := Ground.gcOnly Departure.lateStores }], guard := none }) (v := ?q1408v) rfl (by kernel_rfl) (by kernel_rfl) (by kernel_rfl) (fun _ _ _ h => h) (Or.inl ⟨by rfl, ?q1408h⟩) hHeld ?q1408r
      case q1408h => (intro wq hSw; clear hSw; go_simp; try with_reducible rfl)
      try simp only [Act.put, List.setIfInBounds_toArray, List.set_cons_zero, List.set_cons_succ]
      refine wpAnyH_take (i := 9) (oi := { dst := some 74, op := Op.load 3 (Operand.tmp 73), type := 3, pos := "locks.go:165", after := #[{ on := 8, ground := Ground.data }, { on := 11, ground := Ground.gcOnly Departure.lateStores }], guard := none }) (v := .int .i64 g.mode) rfl (by kernel_rfl) (by kernel_rfl) (by kernel_rfl) (fun _ _ _ h => h) (Or.inl ⟨by rfl, ?q1409h⟩) hHeld ?q1409r
      case q1409h => (intro wq hSw; have lq := (hSw.2) 3 (.int .i64 g.mode) rfl; simp only [Nat.zero_add] at lq; clear hSw; go_simp; try with_reducible rfl)
      try simp only [Act.put, List.setIfInBounds_toArray, List.set_cons_zero, List.set_cons_succ]
      refine wpAnyH_ready (rs := [7]) (by kernel_rfl) (by simp) ?_
      refine AllReadyH.cons (o := { dst := some 72, op := Op.call { callee := Callee.value (Operand.func 44), args := #[Operand.tmp 67, Operand.tmp 69, Operand.tmp 71], argTypes := #[23, 3, 27] }, type := 3, pos := "locks.go:165", after := #[{ on := 2, ground := Ground.data }, { on := 4, ground := Ground.data }, { on := 6, ground := Ground.data }], guard := none }) rfl (fun K hK => ?_) (AllReadyH.nil)
      go_simp
      go_wp2_with (go_at_call 44; refine (HMu.out _ (((HS732.out).drew).reads 5 rfl)).mono ?_; rintro e w758 ⟨rfl, hb⟩)
      have HS758 : Hid (Hp w [.ob (w.heap.size) 25 (tbCells (.slice a9 u.held.length c9) (.slice b9 u.wait.length d9)), .ob b3 29 (grCells g), .ob b4 25 (tbCells (.slice none 0 0) (.slice none 0 0)), .rd R, .rd R7, .rd R9] w758) := ((HS732.out).drew).calls hb
      refine hK.out _ _ (⟨(fun j v hv => by rw [Nat.zero_add]; exact (HS758.out).at 0 rfl j hv), (fun j v hv => by rw [Nat.zero_add]; exact (HS758.out).at 1 rfl j hv)⟩) (fun hHeld => ?_)
      clear hK K hb
      try simp only [Act.put, List.setIfInBounds_toArray, List.set_cons_zero, List.set_cons_succ]
      refine wpAnyH_take (i := 10) (oi := { dst := some 75, op := Op.binOp BinOp.eql 3 (Operand.tmp 72) (Operand.tmp 74) 3, type := 4, pos := "locks.go:165", after := #[{ on := 7, ground := Ground.data }, { on := 9, ground := Ground.data }, { on := 11, ground := Ground.gcOnly Departure.lateStores }], guard := none }) (v := .bool q) rfl (by kernel_rfl) (by kernel_rfl) (by kernel_rfl) (fun _ _ _ h => h) (Or.inl ⟨by rfl, ?q1410h⟩) hHeld ?q1410r
      case q1410h => (intro wq hSw; clear hSw; go_simp; try with_reducible rfl)
      try simp only [Act.put, List.setIfInBounds_toArray, List.set_cons_zero, List.set_cons_succ]
      refine wpAnyH_ready (rs := [11]) (by kernel_rfl) (by simp) ?_
      refine AllReadyH.cons (o := { dst := none, op := Op.store 25 (Operand.tmp 4) (Operand.tmp 65), type := 0, pos := "locks.go:165", after := #[{ on := 0, ground := Ground.data }, { on := 7, ground := Ground.chain }, { on := 0, ground := Ground.phase }, { on := 1, ground := Ground.textOnly Departure.lateStores }, { on := 2, ground := Ground.textOnly Departure.lateStores }, { on := 3, ground := Ground.textOnly Departure.lateStores }, { on := 4, ground := Ground.textOnly Departure.lateStores }, { on := 5, ground := Ground.textOnly Departure.lateStores }, { on := 6, ground := Ground.textOnly Departure.lateStores }, { on := 7, ground := Ground.textOnly Departure.lateStoresUnsure }, { on := 8, ground := Ground.textOnly Departure.lateStores }, { on := 9, ground := Ground.textOnly Departure.lateStores }, { on := 10, ground := Ground.textOnly Departure.lateStores }], guard := none }) rfl (fun K hK => ?_) (AllReadyH.nil)
      rw [if_pos (by rfl)]
      refine wp_store_ob 25 (.tmp 4) (.tmp 65) b4 (tbCells (.slice a9 u.held.length c9) (.slice b9 u.wait.length d9)) (tbCells (.slice none 0 0) (.slice none 0 0)) 25 rfl rfl rfl rfl ((HS758.out).get 2 rfl) (info_tb) (rfl) ((oneCell_tb _ _ _ _ _ _)) ?_
      have HS759 : Hid (Hp w [.ob (w.heap.size) 25 (tbCells (.slice a9 u.held.length c9) (.slice b9 u.wait.length d9)), .ob b3 29 (grCells g), .ob b4 25 (tbCells (.slice a9 u.held.length c9) (.slice b9 u.wait.length d9)), .rd R, .rd R7, .rd R9] (w758.setRow b4 (tbCells (.slice a9 u.held.length c9) (.slice b9 u.wait.length d9)).toArray)) := (HS758.out).row 2 rfl (tbCells (.slice a9 u.held.length c9) (.slice b9 u.wait.length d9))
      refine hK.out _ _ (⟨(fun j v hv => by rw [Nat.zero_add]; exact (HS759.out).at 0 rfl j hv), (fun j v hv => by rw [Nat.zero_add]; exact (HS759.out).at 1 rfl j hv)⟩) (fun hHeld => ?_)
      clear hK K
      generalize (w758.setRow b4 (tbCells (.slice a9 u.held.length c9) (.slice b9 u.wait.length d9)).toArray) = w759 at *
      try simp only [Act.put, List.setIfInBounds_toArray, List.set_cons_zero, List.set_cons_succ]
      refine wpAnyH_take (i := 12) (oi := { dst := some 5, op := Op.assign (Operand.tmp 75), type := 4, pos := "locks.go:165", after := #[{ on := 10, ground := Ground.data }, { on := 11, ground := Ground.chain }, { on := 0, ground := Ground.phase }, { on := 1, ground := Ground.phase }, { on := 2, ground := Ground.phase }, { on := 3, ground := Ground.phase }, { on := 4, ground := Ground.phase }, { on := 5, ground := Ground.phase }, { on := 6, ground := Ground.phase }, { on := 7, ground := Ground.phase }, { on := 8, ground := Ground.phase }, { on := 9, ground := Ground.phase }, { on := 10, ground := Ground.phase }, { on := 11, ground := Ground.phase }], guard := none }) (v := ?q1411v) rfl (by kernel_rfl) (by kernel_rfl) (by kernel_rfl) (fun _ _ _ h => h) (Or.inl ⟨by rfl, ?q1411h⟩) hHeld ?q1411r
      case q1411h => (intro wq hSw; clear hSw; go_simp; try with_reducible rfl)
      try simp only [Act.put, List.setIfInBounds_toArray, List.set_cons_zero, List.set_cons_succ]
      refine wpAnyH_take (i := 13) (oi := { dst := some 6, op := Op.assign (Operand.const (Value.int IntKind.i64 0)), type := 42, pos := "locks.go:165", after := #[{ on := 12, ground := Ground.chain }, { on := 0, ground := Ground.phase }, { on := 1, ground := Ground.phase }, { on := 2, ground := Ground.phase }, { on := 3, ground := Ground.phase }, { on := 4, ground := Ground.phase }, { on := 5, ground := Ground.phase }, { on := 6, ground := Ground.phase }, { on := 7, ground := Ground.phase }, { on := 8, ground := Ground.phase }, { on := 9, ground := Ground.phase }, { on := 10, ground := Ground.phase }, { on := 11, ground := Ground.phase }, { on := 12, ground := Ground.phase }], guard := none }) (v := ?q1412v) rfl (by kernel_rfl) (by kernel_rfl) (by kernel_rfl) (fun _ _ _ h => h) (Or.inl ⟨by rfl, ?q1412h⟩) hHeld ?q1412r
      case q1412h => (intro wq hSw; clear hSw; go_simp; try with_reducible rfl)
      try simp only [Act.put, List.setIfInBounds_toArray, List.set_cons_zero, List.set_cons_succ]
      refine wpAnyH_done (by kernel_rfl) ?_ _
      clear hHeld
      go_wp2_with fail
      refine bodyPost_ret (results_ob_tmp2 Try.results24 _ _ b4 (tbCells (.slice a9 u.held.length c9) (.slice b9 u.wait.length d9)) 25 _ rfl ((HS759.out).get 2 rfl) HUT.out rfl info_tb) rfl ?_
      rw [HE2.out]
      exact ⟨_, _, R9, rfl, H9.out, (HS759.out).reads 5 rfl, fun r hr => .inl (HN9.out r hr), (HS759.out).old⟩
end Go.Proofs.Ytooaldglgkjjgaa
/- the program's Would (waits) -/
namespace Go.Proofs.Ytooaldglgkjjgaa
open Go.RowKit
set_option maxRecDepth 20000
set_option linter.unusedSimpArgs false
set_option linter.unusedVariables false

set_option maxHeartbeats 16000000 in
theorem pwould_any {h v : Value} {t : Tb} {R : List Rng} (g : Gr) (w : World) (ht : TbRd h v t R) (hR : RdIn w R) (hg : GoodTb t) (hk : GoodGr g) :
    Calls Try.prog 17 #[.agg (tbCells h v).toArray, .agg (grCells g).toArray] w (WouldPost w (wouldR t g)) := by
  obtain ⟨u, bb, cd, hu⟩ : ∃ u bb cd, requestR t g = (u, bb, cd) := ⟨_, _, _, rfl⟩
  have HRq : Hid (∀ W, RdIn W R → Calls Try.prog 24 #[.agg (tbCells h v).toArray, .agg (grCells g).toArray] W (TbPost3 W R (u, bb, cd))) := fun W h9 => by
    have := prequest_any g W ht h9 hg hk
    rwa [hu] at this
  have HGu : Hid (cd = 0 → GoodTb u) := fun h0 => by
    have h9 : (requestR t g).2.2 = 0 := by rw [hu]; exact h0
    have := (request_ok (req_ok h9) h9).1.good
    rwa [hu] at this
  have HE : Hid (wouldR t g = if cd = 0 then (cycR u g.tx, 0) else ([], cd)) := Lib.hid (by unfold wouldR; rw [hu])
  obtain ⟨a, cap, rfl, hnc, hcm⟩ := ht.1.shape
  obtain ⟨a2, cap2, rfl, hnc2, hcm2⟩ := ht.2.shape
  have HR0 := Lib.hid (Hp.startrd w R hR)
  clear hu hR ht hg hk
  generalize wouldR t g = res at *
  have h1 := (HR0.out.put 25 (tbCells (.slice a t.held.length cap) (.slice a2 t.wait.length cap2))).put 29 (grCells g)
  simp only [List.nil_append, List.cons_append] at h1
  have e9 : (w.alloc (.cells (tbCells (.slice a t.held.length cap) (.slice a2 t.wait.length cap2)).toArray 25)).heap.size = w.heap.size + 1 := by simp only [World.alloc, Array.size_push]
  rw [e9] at h1
  have HS0 := Lib.hid h1
  clear e9
  clear h1 HR0
  obtain ⟨fsHUG, huHUG⟩ := under_gr
  have HUG := Lib.hid huHUG
  clear huHUG
  obtain ⟨fsHUK, huHUK⟩ := under_lk
  have HUK := Lib.hid huHUK
  clear huHUK
  obtain ⟨fsHUT, huHUT⟩ := under_tb
  have HUT := Lib.hid huHUT
  clear huHUT
  go_enter Try.func17, Try.ntmps17
  go_upto_region 1 with (fail)
  generalize ((w.alloc (.cells (tbCells (.slice a t.held.length cap) (.slice a2 t.wait.length cap2)).toArray 25)).alloc (.cells (grCells g).toArray 29)) = w1 at *
  generalize w.heap.size + 1 = b3 at *
  go_wp2_with (first | ((with_reducible refine wpList_load_ob 25 (.tmp 2) (w.heap.size) (tbCells (.slice a t.held.length cap) (.slice a2 t.wait.length cap2)) 25 HUT.out ?_ ?_ ?_ ?_ ?_); (exact rfl); (exact (HS0.out).get 1 rfl); (exact rfl); (exact info_tb); simp only [Act.put, List.setIfInBounds_toArray, List.set_cons_zero, List.set_cons_succ]) | ((with_reducible refine wpList_load_ob 29 (.tmp 3) b3 (grCells g) 29 HUG.out ?_ ?_ ?_ ?_ ?_); (exact rfl); (exact (HS0.out).get 2 rfl); (exact rfl); (exact info_gr); simp only [Act.put, List.setIfInBounds_toArray, List.set_cons_zero, List.set_cons_succ]))
  refine (HRq.out _ ((HS0.out).reads 0 rfl)).mono ?_
  rintro e w21 ⟨h9, v9, R9, rfl, hrd2, hin2, hnew2, hb⟩
  obtain ⟨a9, c9, rfl, _, _⟩ := hrd2.1.shape
  obtain ⟨b9, d9, rfl, _, _⟩ := hrd2.2.shape
  have Hrd9 := Lib.hid hrd2
  have HS21 : Hid (Hp w [.rd R, .ob (w.heap.size) 25 (tbCells (.slice a t.held.length cap) (.slice a2 t.wait.length cap2)), .ob b3 29 (grCells g), .rd R9] w21) := (HS0.out).addrd hb R9 hin2 (fun r hr => (hnew2 r hr).elim .inl (fun h => .inr ⟨.rd R, List.mem_of_getElem? (i := 0) rfl, h⟩))
  clear hb hin2 hrd2 hnew2
  clear HS0
  go_upto_region 2 with (first | ((with_reducible refine wpList_alloc_ob 25 (tbCells (.slice none 0 0) (.slice none 0 0)) ?_ ?_); (exact alloc_tb); simp only [Act.put, List.setIfInBounds_toArray, List.set_cons_zero, List.set_cons_succ]) | ((with_reducible refine wpList_store_ob 25 (.tmp 6) (w21.heap.size) (tbCells (.slice a9 u.held.length c9) (.slice b9 u.wait.length d9)) (tbCells (.slice none 0 0) (.slice none 0 0)) 25 ?_ ?_ ?_ ?_ ?_ ?_ ?_); (exact rfl); (exact rfl); (exact ((HS21.out).put 25 (tbCells (.slice none 0 0) (.slice none 0 0))).get 4 rfl); (exact info_tb); (exact rfl); (exact (oneCell_tb _ _ _ _ _ _)); skip))
  have HS22 : Hid (Hp w [.rd R, .ob (w.heap.size) 25 (tbCells (.slice a t.held.length cap) (.slice a2 t.wait.length cap2)), .ob b3 29 (grCells g), .rd R9, .ob (w21.heap.size) 25 (tbCells (.slice a9 u.held.length c9) (.slice b9 u.wait.length d9))] ((w21.alloc (.cells (tbCells (.slice none 0 0) (.slice none 0 0)).toArray 25)).setRow (w21.heap.size) (tbCells (.slice a9 u.held.length c9) (.slice b9 u.wait.length d9)).toArray)) := ((HS21.out).put 25 (tbCells (.slice none 0 0) (.slice none 0 0))).row 4 rfl (tbCells (.slice a9 u.held.length c9) (.slice b9 u.wait.length d9))
  clear HS21
  generalize ((w21.alloc (.cells (tbCells (.slice none 0 0) (.slice none 0 0)).toArray 25)).setRow (w21.heap.size) (tbCells (.slice a9 u.held.length c9) (.slice b9 u.wait.length d9)).toArray) = w22 at *
  generalize w21.heap.size = B21 at *
  by_cases hc0 : cd = 0
  · obtain ⟨e1, n1⟩ := eq_facts hc0
    have HGU := Lib.hid (HGu.out hc0)
    have HE2 : Hid (res = (cycR u g.tx, 0)) := Lib.hid (by rw [HE.out, if_pos hc0])
    clear hc0 HGu
    go_upto_region 4 with (fail)
    clear e1 n1
    have cg : w22.cell? ⟨b3, 0, none⟩ = some (.int .i64 g.tx) := HS22.out.at 2 rfl 0 rfl
    go_wp2_with (first | ((with_reducible refine wpList_load_ob 25 (.tmp 6) B21 (tbCells (.slice a9 u.held.length c9) (.slice b9 u.wait.length d9)) 25 HUT.out ?_ ?_ ?_ ?_ ?_); (exact rfl); (exact (HS22.out).get 4 rfl); (exact rfl); (exact info_tb); simp only [Act.put, List.setIfInBounds_toArray, List.set_cons_zero, List.set_cons_succ]))
    have HS23 : Hid (Hp w [.rd R, .ob (w.heap.size) 25 (tbCells (.slice a t.held.length cap) (.slice a2 t.wait.length cap2)), .ob b3 29 (grCells g), .rd R9, .ob B21 25 (tbCells (.slice a9 u.held.length c9) (.slice b9 u.wait.length d9))] w22) := HS22.out
    clear HS22
    have HSz := Lib.hid HS23.out.old.size
    go_wp2_with fail
    refine (pcycle_any g.tx _ Hrd9.out ((HS23.out).reads 3 rfl) HGU.out).mono ?_
    rintro e w23 ⟨v8, R8, rfl, hrd2, hin2, hnew2, hb⟩
    obtain ⟨a8, c8, rfl, hl8, hm8, hg8⟩ := hrd2.cells
    have Hrd8 := Lib.hid hrd2
    have Hnw8 := Lib.hid hnew2
    have Hgc8 := Lib.hid hg8
    clear hg8
    have HS24 : Hid (Hp w [.rd R, .ob (w.heap.size) 25 (tbCells (.slice a t.held.length cap) (.slice a2 t.wait.length cap2)), .ob b3 29 (grCells g), .rd R9, .ob B21 25 (tbCells (.slice a9 u.held.length c9) (.slice b9 u.wait.length d9)), .rd R8] w23) := (HS23.out).addrd hb R8 hin2 (fun r hr => .inl (hnew2 r hr))
    clear hb hin2 hrd2 hnew2
    clear HS23
    go_wp2_with fail
    go_ret2
    rw [HE2.out]
    exact ⟨_, R8, rfl, Hrd8.out, HS24.out.reads 5 rfl, fun r hr => Nat.le_trans HSz.out (Hnw8.out r hr), HS24.out.old⟩
  · obtain ⟨e1, n1⟩ := ne_facts hc0
    have HE2 : Hid (res = ([], cd)) := Lib.hid (by rw [HE.out, if_neg hc0])
    clear hc0 HGu
    go_wp2_with fail
    go_ret2
    rw [HE2.out]
    exact ⟨_, [], rfl, IntRd.nil _, RdIn.nil _, by simp, HS22.out.old⟩
end Go.Proofs.Ytooaldglgkjjgaa
/- the example of chapter 8, reckoned -/
namespace Go.Proofs.Ytooaldglgkjjgaa
set_option maxRecDepth 20000

def kx (tx m : Int) : Gr := ⟨tx, 1, 0, m⟩
theorem request_new {t : Tb} {g : Gr} (h : TbOk t) (hg : GrOk g) (hno : wfind t.wait g.tx = none) (hm : ¬ g.mode ≤ modeG t.held g) (hl : ¬ t.held.length + t.wait.length = 1024) :
    requestR t g = (settleR (addedR t g), decide (g.mode ≤ modeG (settleR (addedR t g)).held g), 0) := by
  rw [request_of h hg, waitR_of h, hno]
  simp only [Option.isSome_none, Bool.false_eq_true, if_false]
  rw [if_neg hm, if_neg hl]
end Go.Proofs.Ytooaldglgkjjgaa
/- the example of chapter 9, reckoned -/
namespace Go.Proofs.Ytooaldglgkjjgaa
set_option maxRecDepth 20000

def kz (tx m : Int) : Gr := ⟨tx, 0, 0, m⟩
def exT : Tb := ⟨[kz 1 1, kz 2 1], [kz 1 2]⟩
theorem kz_ok {tx m : Int} (h : tx = 1 ∨ tx = 2) (hm : m = 1 ∨ m = 2) : GrOk (kz tx m) := ⟨by show 1 ≤ tx ∧ tx ≤ 1073741824; omega, ⟨by show (0 : Int) ≤ 0; decide, by show (0 : Int) < 64; decide⟩, ⟨by show (0 : Int) ≤ 0; decide, by show (0 : Int) < 16; decide⟩, hm⟩
theorem exT_ok : TbOk exT := by
  refine ⟨by decide, ⟨⟨fun g hg => ?_, ?_, ?_⟩, ⟨fun g hg => ?_, ?_⟩⟩⟩
  · rcases List.mem_cons.1 hg with rfl | hg
    · exact kz_ok (.inl rfl) (.inl rfl)
    · rcases List.mem_cons.1 hg with rfl | hg
      · exact kz_ok (.inr rfl) (.inl rfl)
      · cases hg
  · show List.Pairwise GLt [kz 1 1, kz 2 1]
    refine List.pairwise_cons.2 ⟨fun x hx => ?_, List.pairwise_singleton _ _⟩
    rw [List.mem_singleton.1 hx]
    exact .inr ⟨rfl, .inr ⟨rfl, by show (1 : Int) < 2; decide⟩⟩
  · show List.Pairwise (fun a b => ¬ Conf a b) [kz 1 1, kz 2 1]
    refine List.pairwise_cons.2 ⟨fun x hx hc => ?_, List.pairwise_singleton _ _⟩
    rw [List.mem_singleton.1 hx] at hc
    have := hc.2.2.2
    exact absurd this (by show ¬ ((1 : Int) = 2 ∨ (1 : Int) = 2); decide)
  · rw [List.mem_singleton.1 (show g ∈ [kz 1 2] from hg)]
    exact ⟨kz_ok (.inl rfl) (.inr rfl), by decide⟩
  · exact List.pairwise_singleton _ _
/-- for whom one waits, in a table that is valid -/
def forC (t : Tb) (tx : Int) : List Int := match wfind t.wait tx with
  | some g => (t.wait.takeWhile (fun x => !decide (x.tx = tx))).foldl (forStep g) (t.held.foldl (forStep g) [])
  | none => []
theorem for_of {t : Tb} (h : TbOk t) : forR t = forC t := by
  funext tx
  unfold forR forC
  rw [waitR_of h]
  cases wfind t.wait tx <;> rfl
theorem cyc_of {t : Tb} (h : TbOk t) (tx : Int) : cycR t tx = cycGo (forC t) tx 0 (waitersL t.wait).length := by
  unfold cycR waitersR
  rw [for_of h, if_pos (tbOkB_iff.2 h)]
theorem would_ex : wouldR exT (kz 2 2) = ([2, 1], 0) := by
  have e : requestR exT (kz 2 2) = (⟨[kz 1 1, kz 2 1], [kz 1 2, kz 2 2]⟩, false, 0) := by
    rw [request_new exT_ok (kz_ok (.inr rfl) (.inr rfl)) (by rfl) (by decide) (by decide)]; rfl
  have o : TbOk ⟨[kz 1 1, kz 2 1], [kz 1 2, kz 2 2]⟩ := by have := (request_ok exT_ok (g := kz 2 2) (by rw [e])).1; rwa [e] at this
  unfold wouldR
  rw [e, if_pos rfl, cyc_of o]
  decide +kernel
end Go.Proofs.Ytooaldglgkjjgaa
/- the sanity check of the laws of chapter 9 -/
namespace Go.Proofs.Ytooaldglgkjjgaa
open Go.RowKit
set_option maxRecDepth 20000
set_option linter.unusedSimpArgs false
set_option linter.unusedVariables false

theorem build_kz (tx m : Int) (W : World) : Sem.run Try.prog (Instr.build 29 #[(0, .int .i64 tx), (2, .int .i64 m)]) W = .ok (.agg (grCells (kz tx m)).toArray) W := by kernel_rfl
theorem build_tbx (a b : Option Addr) (n c m d : Nat) (W : World) : Sem.run Try.prog (Instr.build 25 #[(0, .slice a n c), (1, .slice b m d)]) W = .ok (.agg (tbCells (.slice a n c) (.slice b m d)).toArray) W := by kernel_rfl
theorem ex_rd (b6 b8 : Nat) : TbRd (.slice (some ⟨b6, 0, none⟩) 2 2) (.slice (some ⟨b8, 0, none⟩) 1 1) exT [(b6, 0, grRow [kz 1 1, kz 2 1]), (b8, 0, grRow [kz 1 2])] :=
  ⟨⟨some ⟨b6, 0, none⟩, 2, rfl, rfl, Nat.le_refl _, by decide, fun _ => ⟨b6, 0, rfl, List.mem_cons_self ..⟩, fun h => by cases h⟩,
   ⟨some ⟨b8, 0, none⟩, 1, rfl, rfl, Nat.le_refl _, by decide, fun _ => ⟨b8, 0, rfl, List.mem_cons_of_mem _ (List.mem_cons_self ..)⟩, fun h => by cases h⟩⟩
set_option maxHeartbeats 8000000 in
theorem awake9 (w : World) : Calls Try.prog 6 #[] w fun e w' => e = .returned (.bool true) ∧ Below w.heap.size w w' := by
  have HUX := Lib.hid under_grs
  have HKz : Hid (∀ tx m, (tx = 1 ∨ tx = 2) → (m = 1 ∨ m = 2) → GoodGr (kz tx m)) := Lib.hid (fun tx m h1 h2 => (kz_ok h1 h2).good)
  have HW := Lib.hid would_ex
  have HG := Lib.hid exT_ok.good
  obtain ⟨fsHUG, huHUG⟩ := under_gr
  have HUG := Lib.hid huHUG
  clear huHUG
  obtain ⟨fsHUK, huHUK⟩ := under_lk
  have HUK := Lib.hid huHUK
  clear huHUK
  obtain ⟨fsHUT, huHUT⟩ := under_tb
  have HUT := Lib.hid huHUT
  clear huHUT
  have HS0 := Lib.hid (Hp.start w)
  go_enter Try.func6, Try.ntmps6
  go_upto_region 1 with (fail)
  go_upto_region 2 with (first | ((with_reducible refine wpList_build_v (d := some 4) 29 (.agg (grCells (kz 1 1)).toArray) ?_ ?_); (intro W; simp only [List.map_toArray, List.map_cons, List.map_nil]; exact build_kz _ _ W); simp only [Act.put, List.setIfInBounds_toArray, List.set_cons_zero, List.set_cons_succ]) | ((with_reducible refine wpList_build_v (d := some 5) 29 (.agg (grCells (kz 2 1)).toArray) ?_ ?_); (intro W; simp only [List.map_toArray, List.map_cons, List.map_nil]; exact build_kz _ _ W); simp only [Act.put, List.setIfInBounds_toArray, List.set_cons_zero, List.set_cons_succ]) | ((with_reducible refine wpList_build_obs 23 2 elem_gr HUX.out [grCells (kz 1 1), grCells (kz 2 1)] ?_ ?_ ?_ ?_ ?_ ?_); (exact (List.forall_mem_cons.2 ⟨rfl, (List.forall_mem_cons.2 ⟨rfl, (fun _ h => absurd h List.not_mem_nil)⟩)⟩)); (exact Nat.succ_pos _); (simp only [List.length_cons, List.length_nil]; omega); (exact rfl); (simp only [List.map_toArray, List.map_cons, List.map_nil, List.zipIdx_cons, List.zipIdx_nil]; exact rfl); simp only [Act.put, List.setIfInBounds_toArray, List.set_cons_zero, List.set_cons_succ]) | ((with_reducible refine wpList_build_v (d := some 7) 29 (.agg (grCells (kz 1 2)).toArray) ?_ ?_); (intro W; simp only [List.map_toArray, List.map_cons, List.map_nil]; exact build_kz _ _ W); simp only [Act.put, List.setIfInBounds_toArray, List.set_cons_zero, List.set_cons_succ]) | ((with_reducible refine wpList_build_obs 23 1 elem_gr HUX.out [grCells (kz 1 2)] ?_ ?_ ?_ ?_ ?_ ?_); (exact (List.forall_mem_cons.2 ⟨rfl, (fun _ h => absurd h List.not_mem_nil)⟩)); (exact Nat.succ_pos _); (simp only [List.length_cons, List.length_nil]; omega); (exact rfl); (simp only [List.map_toArray, List.map_cons, List.map_nil, List.zipIdx_cons, List.zipIdx_nil]; exact rfl); simp only [Act.put, List.setIfInBounds_toArray, List.set_cons_zero, List.set_cons_succ]) | ((with_reducible refine wpList_build_v (d := some 9) 25 (.agg (tbCells (.slice (some ⟨w.heap.size, 0, none⟩) 2 2) (.slice (some ⟨(w.alloc (.cells (([grCells (kz 1 1), grCells (kz 2 1)] : List (List Value)).flatMap id).toArray 29)).heap.size, 0, none⟩) 1 1)).toArray) ?_ ?_); (intro W; simp only [List.map_toArray, List.map_cons, List.map_nil]; exact build_tbx _ _ _ _ _ _ W); simp only [Act.put, List.setIfInBounds_toArray, List.set_cons_zero, List.set_cons_succ]) | ((with_reducible refine wpList_alloc_ob 25 (tbCells (.slice none 0 0) (.slice none 0 0)) ?_ ?_); (exact alloc_tb); simp only [Act.put, List.setIfInBounds_toArray, List.set_cons_zero, List.set_cons_succ]) | ((with_reducible refine wpList_store_ob 25 (.tmp 1) (((w.alloc (.cells (([grCells (kz 1 1), grCells (kz 2 1)] : List (List Value)).flatMap id).toArray 29)).alloc (.cells (([grCells (kz 1 2)] : List (List Value)).flatMap id).toArray 29)).heap.size) (tbCells (.slice (some ⟨w.heap.size, 0, none⟩) 2 2) (.slice (some ⟨(w.alloc (.cells (([grCells (kz 1 1), grCells (kz 2 1)] : List (List Value)).flatMap id).toArray 29)).heap.size, 0, none⟩) 1 1)) (tbCells (.slice none 0 0) (.slice none 0 0)) 25 ?_ ?_ ?_ ?_ ?_ ?_ ?_); (exact rfl); (exact rfl); (exact ((((HS0.out).put 29 (([grCells (kz 1 1), grCells (kz 2 1)] : List (List Value)).flatMap id)).put 29 (([grCells (kz 1 2)] : List (List Value)).flatMap id)).put 25 (tbCells (.slice none 0 0) (.slice none 0 0))).get 2 rfl); (exact info_tb); (exact rfl); (exact (oneCell_tb _ _ _ _ _ _)); skip))
  have HS1 : Hid (Hp w [.ob (w.heap.size) 29 (([grCells (kz 1 1), grCells (kz 2 1)] : List (List Value)).flatMap id), .ob ((w.alloc (.cells (([grCells (kz 1 1), grCells (kz 2 1)] : List (List Value)).flatMap id).toArray 29)).heap.size) 29 (([grCells (kz 1 2)] : List (List Value)).flatMap id), .ob (((w.alloc (.cells (([grCells (kz 1 1), grCells (kz 2 1)] : List (List Value)).flatMap id).toArray 29)).alloc (.cells (([grCells (kz 1 2)] : List (List Value)).flatMap id).toArray 29)).heap.size) 25 (tbCells (.slice (some ⟨w.heap.size, 0, none⟩) 2 2) (.slice (some ⟨(w.alloc (.cells (([grCells (kz 1 1), grCells (kz 2 1)] : List (List Value)).flatMap id).toArray 29)).heap.size, 0, none⟩) 1 1))] ((((w.alloc (.cells (([grCells (kz 1 1), grCells (kz 2 1)] : List (List Value)).flatMap id).toArray 29)).alloc (.cells (([grCells (kz 1 2)] : List (List Value)).flatMap id).toArray 29)).alloc (.cells (tbCells (.slice none 0 0) (.slice none 0 0)).toArray 25)).setRow (((w.alloc (.cells (([grCells (kz 1 1), grCells (kz 2 1)] : List (List Value)).flatMap id).toArray 29)).alloc (.cells (([grCells (kz 1 2)] : List (List Value)).flatMap id).toArray 29)).heap.size) (tbCells (.slice (some ⟨w.heap.size, 0, none⟩) 2 2) (.slice (some ⟨(w.alloc (.cells (([grCells (kz 1 1), grCells (kz 2 1)] : List (List Value)).flatMap id).toArray 29)).heap.size, 0, none⟩) 1 1)).toArray)) := ((((HS0.out).put 29 (([grCells (kz 1 1), grCells (kz 2 1)] : List (List Value)).flatMap id)).put 29 (([grCells (kz 1 2)] : List (List Value)).flatMap id)).put 25 (tbCells (.slice none 0 0) (.slice none 0 0))).row 2 rfl (tbCells (.slice (some ⟨w.heap.size, 0, none⟩) 2 2) (.slice (some ⟨(w.alloc (.cells (([grCells (kz 1 1), grCells (kz 2 1)] : List (List Value)).flatMap id).toArray 29)).heap.size, 0, none⟩) 1 1))
  clear HS0
  generalize ((((w.alloc (.cells (([grCells (kz 1 1), grCells (kz 2 1)] : List (List Value)).flatMap id).toArray 29)).alloc (.cells (([grCells (kz 1 2)] : List (List Value)).flatMap id).toArray 29)).alloc (.cells (tbCells (.slice none 0 0) (.slice none 0 0)).toArray 25)).setRow (((w.alloc (.cells (([grCells (kz 1 1), grCells (kz 2 1)] : List (List Value)).flatMap id).toArray 29)).alloc (.cells (([grCells (kz 1 2)] : List (List Value)).flatMap id).toArray 29)).heap.size) (tbCells (.slice (some ⟨w.heap.size, 0, none⟩) 2 2) (.slice (some ⟨(w.alloc (.cells (([grCells (kz 1 1), grCells (kz 2 1)] : List (List Value)).flatMap id).toArray 29)).heap.size, 0, none⟩) 1 1)).toArray) = w1 at *
  generalize ((w.alloc (.cells (([grCells (kz 1 1), grCells (kz 2 1)] : List (List Value)).flatMap id).toArray 29)).alloc (.cells (([grCells (kz 1 2)] : List (List Value)).flatMap id).toArray 29)).heap.size = B1 at *
  generalize (w.alloc (.cells (([grCells (kz 1 1), grCells (kz 2 1)] : List (List Value)).flatMap id).toArray 29)).heap.size = B2 at *
  have HS2 : Hid (Hp w [.ob B1 25 (tbCells (.slice (some ⟨w.heap.size, 0, none⟩) 2 2) (.slice (some ⟨B2, 0, none⟩) 1 1)), .ob (w.heap.size) 29 (([grCells (kz 1 1), grCells (kz 2 1)] : List (List Value)).flatMap id), .ob B2 29 (([grCells (kz 1 2)] : List (List Value)).flatMap id)] w1) := HS1.out.pull [2, 0, 1] rfl (pull_nd HS1.out.nd [2, 0, 1] rfl (by decide))
  clear HS1
  obtain ⟨_, hs7⟩ := Hp.obrd (A := [.ob B1 25 (tbCells (.slice (some ⟨w.heap.size, 0, none⟩) 2 2) (.slice (some ⟨B2, 0, none⟩) 1 1)), .ob (w.heap.size) 29 (([grCells (kz 1 1), grCells (kz 2 1)] : List (List Value)).flatMap id)]) HS2.out
  obtain ⟨_, hs8⟩ := Hp.obrd (A := [.ob B1 25 (tbCells (.slice (some ⟨w.heap.size, 0, none⟩) 2 2) (.slice (some ⟨B2, 0, none⟩) 1 1)), .rd [(B2, 0, _)]]) (hs7.pull [0, 2, 1] rfl (pull_nd hs7.nd [0, 2, 1] rfl (by decide)))
  have HS9 := Lib.hid hs8
  have HR9 : Hid (RdIn _ [(w.heap.size, 0, grRow [kz 1 1, kz 2 1]), (B2, 0, grRow [kz 1 2])]) := Lib.hid (by
    have h1 := hs8.reads 1 rfl
    have h2 := hs8.reads 2 rfl
    intro r hr
    rcases List.mem_cons.1 hr with rfl | hr
    · exact h2 _ (List.mem_cons_self ..)
    · rcases List.mem_cons.1 hr with rfl | hr
      · exact h1 _ (List.mem_cons_self ..)
      · cases hr)
  clear hs7 hs8
  have q0 := HS9.out.at 0 rfl 0 rfl
  have q1 := HS9.out.at 0 rfl 1 rfl
  clear q0 q1
  go_wp2_with (first | ((with_reducible refine wpList_build_v (d := some 12) 29 (.agg (grCells (kz 2 2)).toArray) ?_ ?_); (intro W; simp only [List.map_toArray, List.map_cons, List.map_nil]; exact build_kz _ _ W); simp only [Act.put, List.setIfInBounds_toArray, List.set_cons_zero, List.set_cons_succ]) | ((with_reducible refine wpList_load_ob 25 (.tmp 1) B1 (tbCells (.slice (some ⟨w.heap.size, 0, none⟩) 2 2) (.slice (some ⟨B2, 0, none⟩) 1 1)) 25 HUT.out ?_ ?_ ?_ ?_ ?_); (exact rfl); (exact HS9.out.get 0 rfl); (exact rfl); (exact info_tb); simp only [Act.put, List.setIfInBounds_toArray, List.set_cons_zero, List.set_cons_succ]))
  refine (pwould_any (kz 2 2) _ (ex_rd _ _) HR9.out HG.out (HKz.out _ _ (by decide) (by decide))).mono ?_
  rintro e w90 ⟨v8, R8, rfl, hrd2, hin2, hnew2, hb⟩
  rw [HW.out] at hrd2 ⊢
  obtain ⟨a8, c8, rfl, hl8, hm8, hg8⟩ := hrd2.cells
  obtain ⟨g8, o8, rfl, hc8⟩ := hg8 (by decide)
  have l0 : w90.cell? ⟨g8, o8, none⟩ = some (.int .i64 2) := hc8 _ hin2 0 2 rfl
  have l1 : w90.cell? ⟨g8, o8 + 1, none⟩ = some (.int .i64 1) := hc8 _ hin2 1 1 rfl
  have HSz := Lib.hid (HS9.out.old.trans (hb.mono HS9.out.old.size))
  clear hc8 hg8 hrd2 hin2 hnew2 hb
  go_wp2_with fail
  go_ret
  exact ⟨rfl, HSz.out⟩
end Go.Proofs.Ytooaldglgkjjgaa
/- who waits is one of five: what the functions of chapter 8 do to that -/
namespace Go.Proofs.Ytooaldglgkjjgaa
set_option maxRecDepth 20000

def Five (t : Tb) : Prop := ∀ x ∈ t.wait, 1 ≤ x.tx ∧ x.tx ≤ 5
theorem five_nil : Five tbNil := fun x hx => by cases hx
theorem five_cancel {t : Tb} (h : Five t) (tx : Int) : Five (cancelR t tx) := by
  unfold cancelR
  split
  · intro x hx
    exact h x (List.mem_filter.1 (settle_wait hx)).1
  · exact h
theorem five_drop {t : Tb} (h : Five t) (tx p s : Int) : Five (dropR t tx p s) := by
  unfold dropR
  split
  · intro x hx
    exact h x (settle_wait (t := ⟨leftKey t.held tx p s, t.wait⟩) hx)
  · exact h
theorem five_release {t : Tb} (h : Five t) (tx : Int) : Five (releaseR t tx) := by
  unfold releaseR
  split
  · intro x hx
    exact h x (List.mem_filter.1 (settle_wait hx)).1
  · exact h
theorem five_request {t : Tb} {g : Gr} (h : Five t) (hg : 1 ≤ g.tx ∧ g.tx ≤ 5) : Five (requestR t g).1 := by
  unfold requestR
  split
  · exact five_nil
  · split
    · exact five_nil
    · split
      · split
        · exact h
        · exact five_nil
      · split
        · exact h
        · split
          · exact five_nil
          · intro x hx
            rcases mem_added (settle_wait hx) with rfl | hx
            · exact hg
            · exact h x hx
/-- a table as the plays of chapter 9 keep it -/
structure Calm (t : Tb) : Prop where
  set : Settled t
  acyc : Acyc (Edge t)
  five : Five t
theorem Calm.nil : Calm tbNil := ⟨tbNil_settled, acyc_nil, five_nil⟩
theorem Calm.cancel {t : Tb} (h : Calm t) (tx : Int) : Calm (cancelR t tx) ∧ tbLen (cancelR t tx) ≤ tbLen t :=
  ⟨⟨(cancel_ok h.set.ok tx).1, acyc_cancel h.acyc tx, five_cancel h.five tx⟩, (cancel_ok h.set.ok tx).2⟩
theorem Calm.drop {t : Tb} (h : Calm t) (tx p s : Int) : Calm (dropR t tx p s) ∧ tbLen (dropR t tx p s) ≤ tbLen t :=
  ⟨⟨(drop_ok h.set.ok tx p s).1, acyc_drop h.acyc tx p s, five_drop h.five tx p s⟩, (drop_ok h.set.ok tx p s).2⟩
theorem Calm.release {t : Tb} (h : Calm t) (tx : Int) : Calm (releaseR t tx) ∧ tbLen (releaseR t tx) ≤ tbLen t :=
  ⟨⟨(release_ok h.set.ok tx).1, acyc_release h.acyc tx, five_release h.five tx⟩, (release_ok h.set.ok tx).2⟩
theorem Calm.request {t : Tb} {g : Gr} (h : Calm t) (hg : 1 ≤ g.tx ∧ g.tx ≤ 5) (hr : (requestR t g).2.2 = 0) :
    Settled (requestR t g).1 ∧ Five (requestR t g).1 ∧ tbLen (requestR t g).1 ≤ tbLen t + 1 ∧ (cycR (requestR t g).1 g.tx = [] → Calm (requestR t g).1) ∧ Calm (cancelR (requestR t g).1 g.tx) ∧ tbLen (cancelR (requestR t g).1 g.tx) ≤ tbLen t + 1 := by
  have h1 := request_ok h.set.ok (g := g) hr
  have hs : Settled (requestR t g).1 := ⟨h1.1, h1.2.1 h.set.stuck⟩
  have hf := five_request h.five hg
  refine ⟨hs, hf, h1.2.2.2, fun hc => ⟨hs, acyc_request h.set.ok hr h.acyc hc, hf⟩, ⟨(cancel_ok hs.ok g.tx).1, acyc_giveup h.set.ok hr h.acyc, five_cancel hf g.tx⟩, ?_⟩
  have h2 := (cancel_ok hs.ok g.tx).2
  omega
theorem Calm.ends {t : Tb} (h : Calm t) (a : Int) (hn : ∀ q, q < 5 → forR t (atW t a q) ≠ []) : forR t (atW t a 5) = [] := at_ends h.set.ok h.acyc h.five a hn
theorem Calm.cyc {t : Tb} (h : Calm t) (tx : Int) : cycR t tx = [] := acyc_cyc h.set.ok h.acyc tx
theorem ascA_nodup {l : List Int} (h : Asc l) : l.Nodup := List.Pairwise.imp (fun h => by omega) h
theorem not_ok {t : Tb} (h : ¬ TbOk t) : tbOkB t = false := by
  cases e : tbOkB t
  · rfl
  · exact absurd (tbOkB_iff.1 e) h
theorem waitersA_len (t : Tb) : (waitersR t).length ≤ 1024 := by
  by_cases h : TbOk t
  · have h1 := nodup_len (ascA_nodup (asc_waiters t)) (m := t.wait.map Gr.tx) (fun x hx => by
      obtain ⟨y, hy, e⟩ := (mem_waiters h).1 hx
      exact List.mem_map.2 ⟨y, hy, e⟩)
    rw [List.length_map] at h1
    have := h.few
    omega
  · unfold waitersR
    rw [not_ok h, if_neg (by decide)]
    exact Nat.zero_le _
theorem forA_len (t : Tb) (tx : Int) : (forR t tx).length ≤ 1024 := by
  by_cases h : TbOk t
  · have h1 := nodup_len (ascA_nodup (asc_for t tx)) (m := (t.held ++ t.wait).map Gr.tx) (fun x hx => by
      obtain ⟨p, g, q, hw, _, he⟩ := (mem_for h).1 hx
      refine List.mem_map.2 ?_
      rcases he with ⟨y, hy, _, e⟩ | ⟨y, hy, _, e⟩
      · exact ⟨y, List.mem_append_left _ hy, e⟩
      · exact ⟨y, List.mem_append_right _ (by rw [hw]; exact List.mem_append_left _ hy), e⟩)
    rw [List.length_map, List.length_append] at h1
    have := h.few
    omega
  · have e : waitR t tx = (grNil, false) := by
      unfold waitR
      rw [not_ok h]
      rfl
    unfold forR
    rw [e]
    exact Nat.zero_le _
theorem firstR_len {f : Int → List Int} {n : Nat} : ∀ l : List Int, (∀ x, (f x).length ≤ n) → (firstR f l).length ≤ n
  | [], _ => Nat.zero_le _
  | x :: l, h => by
    unfold firstR
    split
    · exact firstR_len l h
    · exact h x
theorem closedF_len {f : Int → List Int} : ∀ (k : Nat) (way : List Int), (closedF f k way).length ≤ way.length + k
  | 0, way => by
    unfold closedF
    split
    · exact Nat.le_refl _
    · exact Nat.zero_le _
  | k + 1, way => by
    unfold closedF
    refine firstR_len _ fun x => ?_
    split
    · exact Nat.zero_le _
    · have := closedF_len (f := f) k (way ++ [x])
      rw [List.length_append] at this
      simp only [List.length_cons, List.length_nil] at this
      omega
theorem cycGo_len {f : Int → List Int} {tx : Int} : ∀ (k n : Nat), (cycGo f tx n k).length ≤ n + k
  | 0, n => Nat.zero_le _
  | k + 1, n => by
    unfold cycGo
    split
    · have := cycGo_len (f := f) (tx := tx) k (n + 1)
      omega
    · have := closedF_len (f := f) n [tx]
      simp only [List.length_cons, List.length_nil] at this
      omega
theorem cycR_len (t : Tb) (tx : Int) : (cycR t tx).length ≤ 1024 := by
  have := cycGo_len (f := forR t) (tx := tx) (waitersR t).length 0
  have h2 := waitersA_len t
  show (cycGo (forR t) tx 0 (waitersR t).length).length ≤ 1024
  omega
end Go.Proofs.Ytooaldglgkjjgaa
