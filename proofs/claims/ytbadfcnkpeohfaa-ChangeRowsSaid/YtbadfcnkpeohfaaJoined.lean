/- the walk of joined -/
import Derived.Test.YtbadfcnkpeohfaaChRow
namespace Go.Proofs.Ytbadfcnkpeohfaa
open Go.RowKit

set_option maxHeartbeats 8000000 in
theorem joined_one (s : Int) (c x : Cl) (g off : Nat) (w : World) (hrow : ChRow w g off (links s c (x :: []))) (hok : RowOk s c (x :: [])) :
    Calls Try.prog 28 #[.slice (some ⟨g, off, none⟩) 1 1] w fun e w' => e = .returned (.tuple #[.agg (chCells ⟨2, s, c, endOf x []⟩).toArray, .bool true]) ∧ Below w.heap.size w w' := by
  obtain ⟨fs, hu⟩ := under_ch
  have HU := Lib.hid hu
  clear hu
  obtain ⟨fp, hu⟩ := under_page
  have HUP := Lib.hid hu
  clear hu
  obtain ⟨fc, hu⟩ := under_cell
  have HUC := Lib.hid hu
  clear hu
  have HRow := Lib.hid hrow
  have HRow2 : Hid (ChRow w g (off + 6) (links s x [])) := ChRow.drop (l := [⟨2, s, c, x⟩]) (m := links s x []) hrow
  have HOk := Lib.hid hok
  clear hrow hok
  go_enter Try.func28, Try.ntmps28
  go_upto_region 1 with ((first | ((with_reducible refine wpList_alloc_ob 29 (chCells chNil) ?_ ?_); (exact alloc_ch); simp only [Act.put, List.setIfInBounds_toArray, List.set_cons_zero, List.set_cons_succ])))
  have HS0 : Hid (Hp w [] w) := Hp.start w
  have HS1 : Hid (Hp w [.ob (w.heap.size) 29 (chCells chNil)] (w.alloc (.cells (chCells chNil).toArray 29))) := ((Hp.start w)).put 29 (chCells chNil)
  clear HS0
  generalize (w.alloc (.cells (chCells chNil).toArray 29)) = w2 at *
  generalize w.heap.size = B1 at *
  go_wp2_with (first | ((with_reducible refine wpList_load_at 29 (.tmp 10) g (off) (chCells ⟨2, s, c, x⟩) HU.out ?_ ?_ ?_ ?_ ?_); (exact rfl); (exact (HRow.out.below (HS1.out).old HRow.out.1).2 0 _ rfl); (exact rfl); (exact info_ch); simp only [Act.put, List.setIfInBounds_toArray, List.set_cons_zero, List.set_cons_succ]) | ((with_reducible refine wpList_alloc_ob 29 (chCells chNil) ?_ ?_); (exact alloc_ch); simp only [Act.put, List.setIfInBounds_toArray, List.set_cons_zero, List.set_cons_succ]) | ((with_reducible refine wpList_store_ob 29 (.tmp 4) (w2.heap.size) (chCells ⟨2, s, c, x⟩) (chCells chNil) 29 ?_ ?_ ?_ ?_ ?_ ?_ ?_); (exact rfl); (exact rfl); (exact ((HS1.out).put 29 (chCells chNil)).get 1 rfl); (exact info_ch); (exact rfl); (exact (oneCell_ch _)); skip))
  have HS2 : Hid (Hp w [.ob B1 29 (chCells chNil), .ob (w2.heap.size) 29 (chCells ⟨2, s, c, x⟩)] ((w2.alloc (.cells (chCells chNil).toArray 29)).setRow (w2.heap.size) (chCells ⟨2, s, c, x⟩).toArray)) := ((HS1.out).put 29 (chCells chNil)).row 1 rfl (chCells ⟨2, s, c, x⟩)
  clear HS1
  generalize ((w2.alloc (.cells (chCells chNil).toArray 29)).setRow (w2.heap.size) (chCells ⟨2, s, c, x⟩).toArray) = w3 at *
  generalize w2.heap.size = B2 at *
  have HX : Hid (Hp w [.ob B1 29 (chCells chNil), .ob B2 29 (chCells ⟨2, s, c, endOf x ([] : List Cl)⟩)] w3) := HS2.out
  clear HS2
  go_loopw [15] (fun i wr => i = .int .i64 0 ∧ Hp w [.ob B1 29 (chCells chNil), .ob B2 29 (chCells ⟨2, s, c, endOf x ([] : List Cl)⟩)] wr) (fun _ _ => 0)
  case atStart => exact ⟨rfl, HX.out⟩
  case round =>
    obtain ⟨rfl, hs⟩ := hrel
    have HY := Lib.hid hs
    clear hs HX
    go_wp2_with (first | ((with_reducible refine wpList_load_ob 29 (.tmp 4) B2 (chCells ⟨2, s, c, endOf x ([] : List Cl)⟩) 29 HU.out ?_ ?_ ?_ ?_ ?_); (exact rfl); (exact HY.out.get 1 rfl); (exact rfl); (exact info_ch); simp only [Act.put, List.setIfInBounds_toArray, List.set_cons_zero, List.set_cons_succ]) | ((with_reducible refine wpList_store_ob 29 (.tmp 2) B1 (chCells ⟨2, s, c, endOf x ([] : List Cl)⟩) (chCells chNil) 29 ?_ ?_ ?_ ?_ ?_ ?_ ?_); (exact rfl); (exact rfl); (exact HY.out.get 0 rfl); (exact info_ch); (exact rfl); (exact oneCell_ch _); skip))
    refine bodyPost_ret (results_ob_tmp Try.results28 _ _ B1 (chCells ⟨2, s, c, endOf x ([] : List Cl)⟩) 29 _ rfl ((HY.out.row 0 rfl (chCells ⟨2, s, c, endOf x ([] : List Cl)⟩)).get 0 rfl) HU.out rfl info_ch) rfl ⟨rfl, (HY.out.row 0 rfl (chCells ⟨2, s, c, endOf x ([] : List Cl)⟩)).old⟩
set_option maxHeartbeats 8000000 in
theorem joined_more (s : Int) (c x : Cl) (xs : List Cl) (g off cap : Nat) (w : World) (hrow : ChRow w g off (links s c (x :: xs))) (hok : RowOk s c (x :: xs)) (hcap : xs.length + 1 ≤ cap) (hm : cap ≤ maxLen) (hc1 : ¬ cap = 1) :
    Calls Try.prog 28 #[.slice (some ⟨g, off, none⟩) (xs.length + 1) cap] w fun e w' => e = .returned (.tuple #[.agg (chCells ⟨2, s, c, endOf x xs⟩).toArray, .bool true]) ∧ Below w.heap.size w w' := by
  obtain ⟨fs, hu⟩ := under_ch
  have HU := Lib.hid hu
  clear hu
  obtain ⟨fp, hu⟩ := under_page
  have HUP := Lib.hid hu
  clear hu
  obtain ⟨fc, hu⟩ := under_cell
  have HUC := Lib.hid hu
  clear hu
  have HRow := Lib.hid hrow
  have HRow2 : Hid (ChRow w g (off + 6) (links s x xs)) := ChRow.drop (l := [⟨2, s, c, x⟩]) (m := links s x xs) hrow
  have HOk := Lib.hid hok
  clear hrow hok
  have hmx := hm
  unfold maxLen at hmx
  have hcapI : ((xs.length : Int) + 1) ≤ (cap : Int) := by omega
  have h1c : (1 : Int) ≤ (cap : Int) := by omega
  have h1l : (1 : Int) ≤ (xs.length : Int) + 1 := by omega
  clear hm
  go_enter Try.func28, Try.ntmps28
  go_upto_region 1 with ((first | ((with_reducible refine wpList_alloc_ob 29 (chCells chNil) ?_ ?_); (exact alloc_ch); simp only [Act.put, List.setIfInBounds_toArray, List.set_cons_zero, List.set_cons_succ])))
  have HS0 : Hid (Hp w [] w) := Hp.start w
  have HS1 : Hid (Hp w [.ob (w.heap.size) 29 (chCells chNil)] (w.alloc (.cells (chCells chNil).toArray 29))) := ((Hp.start w)).put 29 (chCells chNil)
  clear HS0
  generalize (w.alloc (.cells (chCells chNil).toArray 29)) = w2 at *
  generalize w.heap.size = B1 at *
  go_wp2_with (first | ((with_reducible refine wpList_load_at 29 (.tmp 10) g (off) (chCells ⟨2, s, c, x⟩) HU.out ?_ ?_ ?_ ?_ ?_); (exact rfl); (exact (HRow.out.below (HS1.out).old HRow.out.1).2 0 _ rfl); (exact rfl); (exact info_ch); simp only [Act.put, List.setIfInBounds_toArray, List.set_cons_zero, List.set_cons_succ]) | ((with_reducible refine wpList_alloc_ob 29 (chCells chNil) ?_ ?_); (exact alloc_ch); simp only [Act.put, List.setIfInBounds_toArray, List.set_cons_zero, List.set_cons_succ]) | ((with_reducible refine wpList_store_ob 29 (.tmp 4) (w2.heap.size) (chCells ⟨2, s, c, x⟩) (chCells chNil) 29 ?_ ?_ ?_ ?_ ?_ ?_ ?_); (exact rfl); (exact rfl); (exact ((HS1.out).put 29 (chCells chNil)).get 1 rfl); (exact info_ch); (exact rfl); (exact (oneCell_ch _)); skip))
  have HS2 : Hid (Hp w [.ob B1 29 (chCells chNil), .ob (w2.heap.size) 29 (chCells ⟨2, s, c, x⟩)] ((w2.alloc (.cells (chCells chNil).toArray 29)).setRow (w2.heap.size) (chCells ⟨2, s, c, x⟩).toArray)) := ((HS1.out).put 29 (chCells chNil)).row 1 rfl (chCells ⟨2, s, c, x⟩)
  clear HS1
  generalize ((w2.alloc (.cells (chCells chNil).toArray 29)).setRow (w2.heap.size) (chCells ⟨2, s, c, x⟩).toArray) = w3 at *
  generalize w2.heap.size = B2 at *
  have HX : Hid (Hp w [.ob B1 29 (chCells chNil), .ob B2 29 (chCells ⟨2, s, c, endOf x (xs.take 0)⟩)] w3) := HS2.out
  clear HS2
  go_loopw [15] (fun i wr => ∃ k : Nat, k ≤ xs.length ∧ i = .int .i64 k ∧ Hp w [.ob B1 29 (chCells chNil), .ob B2 29 (chCells ⟨2, s, c, endOf x (xs.take k)⟩)] wr) (fun i _ => xs.length - (intOf i).toNat)
  case atStart => exact ⟨0, by omega, rfl, HX.out⟩
  case round =>
    obtain ⟨k, hk, rfl, hs⟩ := hrel
    have HY := Lib.hid hs
    clear hs HX
    by_cases hlt : k < xs.length
    · obtain ⟨b, hb⟩ : ∃ b, xs[k] = b := ⟨_, rfl⟩
      have HG : Hid ((links s x xs)[k]? = some ⟨2, s, endOf x (xs.take k), b⟩) := by show _ = _; rw [links_get s x xs k hlt, hb]
      have HE : Hid (endOf x (xs.take (k + 1)) = b) := by show _ = _; rw [endOf_take x xs k hlt]; exact hb
      have hcx : cellOkB x = true := HOk.out.rest x (List.mem_cons_self ..)
      have hrx : RowOk s x xs := ⟨HOk.out.s0, HOk.out.s1, hcx, fun y hy => HOk.out.rest y (List.mem_cons_of_mem _ hy)⟩
      have hob : cellOkB b = true := hrx.rest b (by rw [← hb]; exact List.getElem_mem hlt)
      have hoa := (hrx.take k).endOf
      have HA1 := Lib.hid (HOk.out.change hoa)
      have HA2 : Hid (chOkB ⟨2, s, endOf x (xs.take k), b⟩ = true) := (hrx.drop k).change hob
      clear hb hcx hrx hob hoa
      generalize endOf x (xs.take k) = a at *
      have HJ : Hid (joinR ⟨2, s, c, a⟩ ⟨2, s, a, b⟩ = (⟨2, s, c, b⟩, 0)) := join_ok HA1.out HA2.out rfl rfl rfl
      go_wp2_with (first | ((with_reducible refine wpList_load_at 29 (.tmp 17) g ((off + 6 + k * 6)) (chCells ⟨2, s, a, b⟩) HU.out ?_ ?_ ?_ ?_ ?_); (exact rfl); (exact (HRow2.out.below (HY.out).old HRow2.out.1).2 k _ HG.out); (exact rfl); (exact info_ch); simp only [Act.put, List.setIfInBounds_toArray, List.set_cons_zero, List.set_cons_succ]) | ((with_reducible refine wpList_alloc_ob 29 (chCells chNil) ?_ ?_); (exact alloc_ch); simp only [Act.put, List.setIfInBounds_toArray, List.set_cons_zero, List.set_cons_succ]) | ((with_reducible refine wpList_store_ob 29 (.tmp 6) (wr.heap.size) (chCells ⟨2, s, a, b⟩) (chCells chNil) 29 ?_ ?_ ?_ ?_ ?_ ?_ ?_); (exact rfl); (exact rfl); (exact ((HY.out).put 29 (chCells chNil)).get 2 rfl); (exact info_ch); (exact rfl); (exact (oneCell_ch _)); skip) | ((with_reducible refine wpList_load_ob 29 (.tmp 4) B2 (chCells ⟨2, s, c, a⟩) 29 HU.out ?_ ?_ ?_ ?_ ?_); (exact rfl); (exact (((HY.out).put 29 (chCells chNil)).row 2 rfl (chCells ⟨2, s, a, b⟩)).get 1 rfl); (exact rfl); (exact info_ch); simp only [Act.put, List.setIfInBounds_toArray, List.set_cons_zero, List.set_cons_succ]) | ((with_reducible refine wpList_load_ob 29 (.tmp 6) (wr.heap.size) (chCells ⟨2, s, a, b⟩) 29 HU.out ?_ ?_ ?_ ?_ ?_); (exact rfl); (exact (((HY.out).put 29 (chCells chNil)).row 2 rfl (chCells ⟨2, s, a, b⟩)).get 2 rfl); (exact rfl); (exact info_ch); simp only [Act.put, List.setIfInBounds_toArray, List.set_cons_zero, List.set_cons_succ]))
      refine (join_at HJ.out (chOk_good HA1.out) (chOk_good HA2.out) _).mono ?_
      rintro e w4 ⟨rfl, hb⟩
      have HS3 : Hid (Hp w [.ob B1 29 (chCells chNil), .ob B2 29 (chCells ⟨2, s, c, a⟩), .ob (wr.heap.size) 29 (chCells ⟨2, s, a, b⟩)] w4) := (((HY.out).put 29 (chCells chNil)).row 2 rfl (chCells ⟨2, s, a, b⟩)).calls hb
      clear hb
      clear HY
      generalize wr.heap.size = B3 at *
      go_wp2_with (first | ((with_reducible refine wpList_alloc_ob 29 (chCells chNil) ?_ ?_); (exact alloc_ch); simp only [Act.put, List.setIfInBounds_toArray, List.set_cons_zero, List.set_cons_succ]) | ((with_reducible refine wpList_store_ob 29 (.tmp 7) (w4.heap.size) (chCells ⟨2, s, c, b⟩) (chCells chNil) 29 ?_ ?_ ?_ ?_ ?_ ?_ ?_); (exact rfl); (exact rfl); (exact ((HS3.out).put 29 (chCells chNil)).get 3 rfl); (exact info_ch); (exact rfl); (exact (oneCell_ch _)); skip) | ((with_reducible refine wpList_load_ob 29 (.tmp 7) (w4.heap.size) (chCells ⟨2, s, c, b⟩) 29 HU.out ?_ ?_ ?_ ?_ ?_); (exact rfl); (exact (((HS3.out).put 29 (chCells chNil)).row 3 rfl (chCells ⟨2, s, c, b⟩)).get 3 rfl); (exact rfl); (exact info_ch); simp only [Act.put, List.setIfInBounds_toArray, List.set_cons_zero, List.set_cons_succ]) | ((with_reducible refine wpList_store_ob 29 (.tmp 4) B2 (chCells ⟨2, s, c, b⟩) (chCells ⟨2, s, c, a⟩) 29 ?_ ?_ ?_ ?_ ?_ ?_ ?_); (exact rfl); (exact rfl); (exact (((HS3.out).put 29 (chCells chNil)).row 3 rfl (chCells ⟨2, s, c, b⟩)).get 1 rfl); (exact info_ch); (exact rfl); (exact (oneCell_ch _)); skip))
      have HS4 : Hid (Hp w [.ob B1 29 (chCells chNil), .ob B2 29 (chCells ⟨2, s, c, b⟩), .ob B3 29 (chCells ⟨2, s, a, b⟩), .ob (w4.heap.size) 29 (chCells ⟨2, s, c, b⟩)] (((w4.alloc (.cells (chCells chNil).toArray 29)).setRow (w4.heap.size) (chCells ⟨2, s, c, b⟩).toArray).setRow B2 (chCells ⟨2, s, c, b⟩).toArray)) := (((HS3.out).put 29 (chCells chNil)).row 3 rfl (chCells ⟨2, s, c, b⟩)).row 1 rfl (chCells ⟨2, s, c, b⟩)
      clear HS3
      generalize (((w4.alloc (.cells (chCells chNil).toArray 29)).setRow (w4.heap.size) (chCells ⟨2, s, c, b⟩).toArray).setRow B2 (chCells ⟨2, s, c, b⟩).toArray) = w5 at *
      generalize w4.heap.size = B4 at *
      have HS5 : Hid (Hp w [.ob B1 29 (chCells chNil), .ob B2 29 (chCells ⟨2, s, c, b⟩)] w5) := HS4.out.pull [0, 1] rfl (pull_nd HS4.out.nd [0, 1] rfl (by decide))
      clear HS4
      have HZ : Hid (Hp w [.ob B1 29 (chCells chNil), .ob B2 29 (chCells ⟨2, s, c, endOf x (xs.take (k + 1))⟩)] w5) := by show Hp _ _ _; rw [HE.out]; exact HS5.out
      go_roundw
      case rel => exact ⟨k + 1, by omega, by go_num, HZ.out⟩
      case measure => simp [intOf]; omega
    · obtain rfl : k = xs.length := by omega
      have HX : Hid (xs.take xs.length = xs) := List.take_length
      go_wp2_with (first | ((with_reducible refine wpList_load_ob 29 (.tmp 4) B2 (chCells ⟨2, s, c, endOf x (xs.take xs.length)⟩) 29 HU.out ?_ ?_ ?_ ?_ ?_); (exact rfl); (exact HY.out.get 1 rfl); (exact rfl); (exact info_ch); simp only [Act.put, List.setIfInBounds_toArray, List.set_cons_zero, List.set_cons_succ]) | ((with_reducible refine wpList_store_ob 29 (.tmp 2) B1 (chCells ⟨2, s, c, endOf x (xs.take xs.length)⟩) (chCells chNil) 29 ?_ ?_ ?_ ?_ ?_ ?_ ?_); (exact rfl); (exact rfl); (exact HY.out.get 0 rfl); (exact info_ch); (exact rfl); (exact oneCell_ch _); skip))
      refine bodyPost_ret (results_ob_tmp Try.results28 _ _ B1 (chCells ⟨2, s, c, endOf x (xs.take xs.length)⟩) 29 _ rfl ((HY.out.row 0 rfl (chCells ⟨2, s, c, endOf x (xs.take xs.length)⟩)).get 0 rfl) HU.out rfl info_ch) rfl ⟨by rw [HX.out]; rfl, (HY.out.row 0 rfl (chCells ⟨2, s, c, endOf x (xs.take xs.length)⟩)).old⟩
/-- the walk of joined: one change that does all of the row -/
theorem joined_any (s : Int) (c : Cl) (l : List Cl) (n g off cap : Nat) (w : World) (hrow : ChRow w g off (links s c l)) (hok : RowOk s c l) (hn : l.length = n) (h0 : 0 < n) (hcap : n ≤ cap) (hm : cap ≤ maxLen) :
    Calls Try.prog 28 #[.slice (some ⟨g, off, none⟩) n cap] w fun e w' => e = .returned (.tuple #[.agg (chCells ⟨2, s, c, endOf c l⟩).toArray, .bool true]) ∧ Below w.heap.size w w' := by
  subst hn
  cases l with
  | nil => simp at h0
  | cons x xs =>
    by_cases hc : cap = 1
    · subst hc
      have : xs = [] := List.eq_nil_of_length_eq_zero (by rw [List.length_cons] at hcap; omega)
      subst this
      exact joined_one s c x g off w hrow hok
    · exact joined_more s c x xs g off cap w hrow hok hcap hm hc
theorem chRow_part {W : World} {s : Int} {c : Cl} {cs : List Cl} {g : Nat} (h : ChRow W g 0 (links s c cs)) (k : Nat) (hk : k ≤ cs.length) : ChRow W g 0 (links s c (cs.take k)) ∧ ChRow W g (k * 6) (links s (endOf c (cs.take k)) (cs.drop k)) := by
  have e := links_append s c (cs.take k) (cs.drop k)
  rw [List.take_append_drop] at e
  rw [e] at h
  refine ⟨h.take, ?_⟩
  have := h.drop
  rw [links_length, List.length_take, Nat.min_eq_left hk, Nat.zero_add] at this
  exact this
end Go.Proofs.Ytbadfcnkpeohfaa
