/- the walks of Inverse and Valid, the program's and the reference's -/
import Derived.Test.YtbadfcnkpeohfaaChVal
import Derived.Test.YtbadfcnkpeohfaaRfCell
namespace Go.Proofs.Ytbadfcnkpeohfaa
open Go.RowKit

set_option maxHeartbeats 400000 in
theorem inverse_any (c : Chg) (w : World) : Calls Try.prog 17 #[.agg (chCells c).toArray] w fun e w' => e = .returned (.agg (chCells (invR c)).toArray) ∧ Below w.heap.size w w' := by
  unfold chCells invR
  go_enter Try.func17, Try.ntmps17
  go_wp2
  exact bodyPost_ret (v := .agg #[.int .i64 c.page, .int .i64 c.slot, .bool c.after.set, .string c.after.data, .bool c.before.set, .string c.before.data]) (by simp [results, Try.results17, go_sem]) rfl ⟨rfl, ((Below.refl _ _).alloc (Nat.le_refl _) _).alloc (by simp) _⟩
set_option maxHeartbeats 400000 in
theorem rinverse_any (c : Chg) (w : World) : Calls Try.prog 18 #[.agg (chCells c).toArray] w fun e w' => e = .returned (.agg (chCells (invR c)).toArray) ∧ Below w.heap.size w w' := by
  unfold chCells invR
  go_enter Try.func18, Try.ntmps18
  go_wp2
  exact bodyPost_ret (v := .agg #[.int .i64 c.page, .int .i64 c.slot, .bool c.after.set, .string c.after.data, .bool c.before.set, .string c.before.data]) (by simp [results, Try.results18, go_sem]) rfl ⟨rfl, ((Below.refl _ _).alloc (Nat.le_refl _) _).alloc (by simp) _⟩
set_option maxHeartbeats 400000 in
theorem validPage_any (n : Int) (w : World) : Calls Try.prog 31 #[.int .i64 n] w fun e w' => e = .returned (.bool (decide (0 ≤ n) && decide (n < 64))) ∧ w = w' := by
  by_cases h0 : 0 ≤ n
  · by_cases h1 : n < 64
    all_goals
      go_enter Try.func31, Try.ntmps31
      go_wp2
      go_ret
      exact ⟨ret_bool (by simp; omega), rfl⟩
  · go_enter Try.func31, Try.ntmps31
    go_wp2
    go_ret
    exact ⟨ret_bool (by simp; omega), rfl⟩
set_option maxHeartbeats 400000 in
theorem validSlot_any (n : Int) (w : World) : Calls Try.prog 32 #[.int .i64 n] w fun e w' => e = .returned (.bool (decide (0 ≤ n) && decide (n < 16))) ∧ w = w' := by
  by_cases h0 : 0 ≤ n
  · by_cases h1 : n < 16
    all_goals
      go_enter Try.func32, Try.ntmps32
      go_wp2
      go_ret
      exact ⟨ret_bool (by simp; omega), rfl⟩
  · go_enter Try.func32, Try.ntmps32
    go_wp2
    go_ret
    exact ⟨ret_bool (by simp; omega), rfl⟩
set_option maxHeartbeats 400000 in
theorem chCell_any (st : Bool) (d : ByteArray) (w : World) (hs : d.size ≤ maxLen) :
    Calls Try.prog 19 #[.agg #[.bool st, .string d]] w fun e w' => e = .returned (.bool (cellOkB ⟨st, d⟩)) ∧ Below w.heap.size w w' := by
  unfold maxLen at hs
  unfold cellOkB
  simp only
  have fin : Below w.heap.size w (w.alloc (.cells #[.bool st, .string d] 24)) := (Below.refl _ _).alloc (Nat.le_refl _) _
  cases st
  · have hd : d.toList.isEmpty = decide (d.size = 0) := by
      rw [ByteArray.toList_eq, Bool.eq_iff_iff, List.isEmpty_iff, decide_eq_true_iff, ← size_list]
      exact List.length_eq_zero_iff.symm
    cases h0 : decide (d.size = 0)
    all_goals
      rw [h0] at hd
      go_enter Try.func19, Try.ntmps19
      go_wp2
      go_ret
      refine ⟨ret_bool ?_, fin⟩
      first | (simp; done) | (have := of_decide_eq_true h0; simp [this]; done)
  · go_enter Try.func19, Try.ntmps19
    go_wp2
    go_ret
    refine ⟨ret_bool ?_, fin⟩
    simp
    omega
set_option maxHeartbeats 1000000 in
theorem valid_ch (c : Chg) (w : World) (hb : c.before.data.size ≤ maxLen) (ha : c.after.data.size ≤ maxLen) :
    Calls Try.prog 15 #[.agg (chCells c).toArray] w fun e w' => e = .returned (.bool (chOkB c)) ∧ Below w.heap.size w w' := by
  obtain ⟨pg, sl, ⟨ys, yd⟩, ⟨zs, zd⟩⟩ := c
  have HO : Hid (Ob.In ⟨w.heap.size, 29, chCells ⟨pg, sl, ⟨ys, yd⟩, ⟨zs, zd⟩⟩⟩ (w.alloc (.cells #[.int .i64 pg, .int .i64 sl, .bool ys, .string yd, .bool zs, .string zd] 29))) := heap_alloc_last w _
  have HB : Hid (Below w.heap.size w (w.alloc (.cells #[.int .i64 pg, .int .i64 sl, .bool ys, .string yd, .bool zs, .string zd] 29))) := (Below.refl _ _).alloc (Nat.le_refl _) _
  have hz : w.heap.size < (w.alloc (.cells #[.int .i64 pg, .int .i64 sl, .bool ys, .string yd, .bool zs, .string zd] 29)).heap.size := by simp
  have HZ := Lib.hid hz
  clear hz
  unfold chCells chOkB
  simp only at hb ha ⊢
  cases hp : (decide (0 ≤ pg) && decide (pg < 64))
  · go_enter Try.func15, Try.ntmps15
    go_wp2_with (go_at_call 31; refine (validPage_any _ _).mono ?_; rintro e w' ⟨rfl, rfl⟩)
    go_ret
    exact ⟨ret_bool (by rw [← Bool.and_assoc, hp]; rfl), HB.out⟩
  cases hq : (decide (0 ≤ sl) && decide (sl < 16))
  · go_enter Try.func15, Try.ntmps15
    go_wp2_with (first | (go_at_call 31; refine (validPage_any _ _).mono ?_; rintro e w' ⟨rfl, rfl⟩) | (go_at_call 32; refine (validSlot_any _ _).mono ?_; rintro e w' ⟨rfl, rfl⟩))
    go_ret
    exact ⟨ret_bool (by rw [← Bool.and_assoc, hp, ← Bool.and_assoc (decide (0 ≤ sl)), hq]; rfl), HB.out⟩
  · go_enter Try.func15, Try.ntmps15
    go_wp2_with (first | (go_at_call 31; refine (validPage_any _ _).mono ?_; rintro e w' ⟨rfl, rfl⟩) | (go_at_call 32; refine (validSlot_any _ _).mono ?_; rintro e w' ⟨rfl, rfl⟩))
    refine (chCell_any ys yd _ hb).mono ?_
    rintro e w2 ⟨rfl, hb2⟩
    have HO2 := Lib.hid (HO.out.calls hb2)
    have HB2 := Lib.hid (HB.out.trans (hb2.mono (Nat.le_of_lt HZ.out)))
    have c4 : w2.cell? ⟨w.heap.size, 4, none⟩ = some (.bool zs) := HO2.out.at 4 rfl
    have c5 : w2.cell? ⟨w.heap.size, 5, none⟩ = some (.string zd) := HO2.out.at 5 rfl
    clear hb2
    cases hv : cellOkB ⟨ys, yd⟩
    · go_wp2_with fail
      go_ret
      exact ⟨ret_bool (by rw [← Bool.and_assoc, hp, ← Bool.and_assoc (decide (0 ≤ sl)), hq, hv]; rfl), HB2.out⟩
    · go_wp2_with fail
      refine (chCell_any zs zd _ ha).mono ?_
      rintro e w3 ⟨rfl, hb3⟩
      have HB3 := Lib.hid (HB2.out.trans (hb3.mono HB2.out.size))
      clear hb3
      cases hy : cellOkB ⟨zs, zd⟩
      all_goals
        go_wp2_with fail
        go_ret
        exact ⟨ret_bool (by rw [← Bool.and_assoc, hp, ← Bool.and_assoc (decide (0 ≤ sl)), hq, hv, hy]; rfl), HB3.out⟩
set_option maxHeartbeats 1000000 in
theorem rvalid_ch (c : Chg) (w : World) (hb : c.before.data.size ≤ maxLen) (ha : c.after.data.size ≤ maxLen) :
    Calls Try.prog 16 #[.agg (chCells c).toArray] w fun e w' => e = .returned (.bool (chOkB c)) ∧ Below w.heap.size w w' := by
  obtain ⟨pg, sl, ⟨ys, yd⟩, ⟨zs, zd⟩⟩ := c
  have HO : Hid (Ob.In ⟨w.heap.size, 29, chCells ⟨pg, sl, ⟨ys, yd⟩, ⟨zs, zd⟩⟩⟩ (w.alloc (.cells #[.int .i64 pg, .int .i64 sl, .bool ys, .string yd, .bool zs, .string zd] 29))) := heap_alloc_last w _
  have HB : Hid (Below w.heap.size w (w.alloc (.cells #[.int .i64 pg, .int .i64 sl, .bool ys, .string yd, .bool zs, .string zd] 29))) := (Below.refl _ _).alloc (Nat.le_refl _) _
  have hz : w.heap.size < (w.alloc (.cells #[.int .i64 pg, .int .i64 sl, .bool ys, .string yd, .bool zs, .string zd] 29)).heap.size := by simp
  have HZ := Lib.hid hz
  clear hz
  unfold chCells chOkB
  simp only at hb ha ⊢
  by_cases h0 : 0 ≤ pg ∧ pg < 64 ∧ 0 ≤ sl ∧ sl < 16
  · obtain ⟨h0, h1, h2, h3⟩ := h0
    go_enter Try.func16, Try.ntmps16
    go_wp2_with fail
    refine (rvalidCell ys yd _ hb).mono ?_
    rintro e w2 ⟨rfl, hb2⟩
    have HO2 := Lib.hid (HO.out.calls hb2)
    have HB2 := Lib.hid (HB.out.trans (hb2.mono (Nat.le_of_lt HZ.out)))
    have c4 : w2.cell? ⟨w.heap.size, 4, none⟩ = some (.bool zs) := HO2.out.at 4 rfl
    have c5 : w2.cell? ⟨w.heap.size, 5, none⟩ = some (.string zd) := HO2.out.at 5 rfl
    clear hb2
    cases hv : cellOkB ⟨ys, yd⟩
    · go_wp2_with fail
      go_ret
      exact ⟨ret_bool (by simp [hv]), HB2.out⟩
    · go_wp2_with fail
      refine (rvalidCell zs zd _ ha).mono ?_
      rintro e w3 ⟨rfl, hb3⟩
      have HB3 := Lib.hid (HB2.out.trans (hb3.mono HB2.out.size))
      clear hb3
      cases hy : cellOkB ⟨zs, zd⟩
      all_goals
        go_wp2_with fail
        go_ret
        exact ⟨ret_bool (by simp [h0, h1, h2, h3, hv, hy]), HB3.out⟩
  · have HN := Lib.hid h0
    clear h0
    have fin : (decide (0 ≤ pg) && (decide (pg < 64) && (decide (0 ≤ sl) && (decide (sl < 16) && (cellOkB ⟨ys, yd⟩ && cellOkB ⟨zs, zd⟩))))) = false := by
      rw [Bool.eq_false_iff]
      intro h
      simp at h
      exact HN.out ⟨h.1, h.2.1, h.2.2.1, h.2.2.2.1⟩
    rw [fin]
    clear fin
    by_cases h0 : 0 ≤ pg
    · by_cases h1 : pg < 64
      · by_cases h2 : 0 ≤ sl
        · have h3 : ¬ sl < 16 := fun h => HN.out ⟨h0, h1, h2, h⟩
          go_enter Try.func16, Try.ntmps16
          go_wp2_with fail
          go_ret
          exact ⟨rfl, HB.out⟩
        · go_enter Try.func16, Try.ntmps16
          go_wp2_with fail
          go_ret
          exact ⟨rfl, HB.out⟩
      · go_enter Try.func16, Try.ntmps16
        go_wp2_with fail
        go_ret
        exact ⟨rfl, HB.out⟩
    · go_enter Try.func16, Try.ntmps16
      go_wp2_with fail
      go_ret
      exact ⟨rfl, HB.out⟩
end Go.Proofs.Ytbadfcnkpeohfaa
