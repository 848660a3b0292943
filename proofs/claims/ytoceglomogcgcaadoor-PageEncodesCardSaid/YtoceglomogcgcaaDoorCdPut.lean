/- the walks of Put and Get of the program -/
import Derived.Test.YtoceglomogcgcaaDoorNum
namespace Go.Proofs.YtoceglomogcgcaaDoor
open Go.RowKit

/-- what holds of Put's array behind k rounds -/
def PutRel (n : Int) (w wr : World) (k : Nat) : Prop :=
  Below w.heap.size w wr ∧ w.heap.size < wr.heap.size ∧ (∀ j, j < 8 → wr.cell? ⟨w.heap.size, j, none⟩ = some (.int .u8 (if j < k then n / 2 ^ (8 * j) % 256 else 0))) ∧ (∀ j, j < 8 → wr.frozen? ⟨w.heap.size, j, none⟩ = false)
theorem putRel_set {n : Int} {w wr : World} {k : Nat} (h : PutRel n w wr k) (hk : k < 8) : PutRel n w (wr.setCell ⟨w.heap.size, k, none⟩ (.int .u8 (n / 2 ^ (8 * k) % 256))) (k + 1) := by
  obtain ⟨hb, hz, hc, hf⟩ := h
  refine ⟨hb.setCell (Nat.le_refl _) _, by simpa using hz, fun j hj => ?_, fun j hj => by rw [World.frozen?_setCell]; exact hf j hj⟩
  by_cases e : j = k
  · subst e
    rw [World.cell?_setCell_same wr _ _ (hc j hj), if_pos (by omega)]
  · rw [World.cell?_setCell_other wr _ _ _ (by intro h; cases h; exact e rfl), hc j hj]
    by_cases hjk : j < k
    · rw [if_pos hjk, if_pos (by omega)]
    · rw [if_neg hjk, if_neg (by omega)]
set_option maxHeartbeats 400000 in
theorem put_ok (s : ByteArray) (n size : Int) (w : World) (hs : s.size ≤ 4611686018427387904) (h1 : 1 ≤ size) (h8 : size ≤ 8) :
    Calls Tryd.prog 53 #[.string s, .int .i64 n, .int .i64 size] w fun e w' => e = .returned (.string (s ++ leS n size.toNat)) ∧ Below w.heap.size w w' := by
  go_enter Tryd.func53, Tryd.ntmps53
  go_wp2
  go_loopw [8, 14] (fun _ i wr => ∃ k : Nat, (k : Int) ≤ size ∧ i = .int .i64 k ∧ PutRel n w wr k) (fun _ i _ => size.toNat - (intOf i).toNat)
  case atStart =>
    refine ⟨0, by omega, rfl, (Below.refl _ _).alloc (Nat.le_refl _) _, by simp, fun j hj => ?_, fun j hj => by simp⟩
    simp only [World.cell?_alloc_new]
    match j, hj with
    | 0, _ => rfl
    | 1, _ => rfl
    | 2, _ => rfl
    | 3, _ => rfl
    | 4, _ => rfl
    | 5, _ => rfl
    | 6, _ => rfl
    | 7, _ => rfl
  case round =>
    obtain ⟨k, hk, rfl, hr⟩ := hrel
    by_cases hlt : (k : Int) < size
    · have hset := putRel_set hr (by omega)
      have hc := hr.2.2.1 k (by omega)
      have hf := hr.2.2.2 k (by omega)
      clear hr
      go_wp2
      go_roundw
      case rel => exact ⟨k + 1, by omega, by go_num, hset⟩
      case measure => simp [intOf]; omega
    · obtain rfl : size = (k : Int) := by omega
      have hconv := run_convert_bytes_back (P := Tryd.prog) wr 22 9 5 ⟨w.heap.size, 0, none⟩ 8 (leL n k) Tryd.underlying22 Tryd.underlying5 Tryd.underlying9 (fun j hj => by
        rw [leL_length] at hj
        rw [leL_getD n k j hj, leB_toNat]
        have := hr.2.2.1 j (by omega)
        rw [if_pos hj] at this
        have ea : (⟨w.heap.size, 0, none⟩ : Addr).add j = ⟨w.heap.size, j, none⟩ := by
          simp only [Addr.add]; split
          · next h => rw [h]
          · simp
        rw [ea]; exact this)
      rw [leL_length] at hconv
      have hll : (leL n k).length ≤ 8 := by rw [leL_length]; omega
      have hb := hr.1
      clear hr
      go_wp2
      go_ret
      exact ⟨rfl, hb⟩
/-- a size that there is no number of: the text stays -/
theorem put_no (s : ByteArray) (n size : Int) (w : World) (h : size < 1 ∨ 8 < size) :
    Calls Tryd.prog 53 #[.string s, .int .i64 n, .int .i64 size] w fun e w' => e = .returned (.string s) ∧ Below w.heap.size w w' := by
  rcases h with h | h
  · have h' : ¬ 1 ≤ size := by omega
    go_enter Tryd.func53, Tryd.ntmps53
    go_wp2
    go_ret
    exact ⟨rfl, Below.refl _ _⟩
  · have h' : 1 ≤ size := by omega
    have h'' : ¬ size ≤ 8 := by omega
    go_enter Tryd.func53, Tryd.ntmps53
    go_wp2
    go_ret
    exact ⟨rfl, Below.refl _ _⟩
theorem valid_yes (z : Int) (w : World) (h1 : 1 ≤ z) (h8 : z ≤ 8) : Calls Tryd.prog 61 #[.int .i64 z] w fun e w' => e = .returned (.bool true) ∧ w = w' := by
  go_enter Tryd.func61, Tryd.ntmps61
  go_wp2
  go_ret
  exact ⟨rfl, rfl⟩
theorem valid_no (z : Int) (w : World) (h : z < 1 ∨ 8 < z) : Calls Tryd.prog 61 #[.int .i64 z] w fun e w' => e = .returned (.bool false) ∧ w = w' := by
  rcases h with h | h
  · have h' : ¬ 1 ≤ z := by omega
    go_enter Tryd.func61, Tryd.ntmps61
    go_wp2
    go_ret
    exact ⟨rfl, rfl⟩
  · have h' : 1 ≤ z := by omega
    have h'' : ¬ z ≤ 8 := by omega
    go_enter Tryd.func61, Tryd.ntmps61
    go_wp2
    go_ret
    exact ⟨rfl, rfl⟩
set_option maxHeartbeats 400000 in
theorem get_nat (s : ByteArray) (a z : Nat) (w : World) (hs : s.size ≤ maxLen) (h1 : 1 ≤ z) (h8 : z ≤ 8) (hat : a + z ≤ s.size) :
    Calls Tryd.prog 46 #[.string s, .int .i64 a, .int .i64 z] w fun e w' => e = .returned (.tuple #[.int .i64 (wrap64 (leNum s a z)), .int .i64 0]) ∧ w = w' := by
  unfold maxLen at hs
  have h0 : (0 : Int) ≤ (a : Int) := by omega
  have h1' : (1 : Int) ≤ (z : Int) := by omega
  have h8' : (z : Int) ≤ 8 := by omega
  have d0 : decide ((a : Int) < 0) = false := by simp
  have d1 : decide ((s.size : Int) - (z : Int) < (a : Int)) = false := by simp; omega
  go_enter Tryd.func46, Tryd.ntmps46
  go_wp2_with (go_at_call 61; refine (valid_yes _ _ (by omega) (by omega)).mono ?_; rintro e w' ⟨rfl, rfl⟩)
  go_loop [8, 9, 24] (fun x _ i => ∃ k : Nat, k ≤ z ∧ i = .int .i64 k ∧ x = .int .i64 (wrap64 (leNum s a k))) (fun _ _ i => z - (intOf i).toNat)
  case atStart => exact ⟨0, by omega, rfl, by rw [show ((leNum s a 0 : Nat) : Int) = 0 from rfl, wrap64_0]⟩
  case round =>
    obtain ⟨k, hk, rfl, rfl⟩ := hrel
    by_cases hlt : k < z
    · have HS : Hid (bits .or .i64 (wrap64 (leNum s a k : Int)) (wrap64 (wrap64 ((s[a + k].toNat : Nat) : Int) * 2 ^ (8 * k))) = wrap64 (leNum s a (k + 1) : Int)) := by
        show _ = _
        rw [or_i64 _ _ _ (leNum_lt s a k) s[a + k].toNat_lt (by omega), leNum, getD_at s (a + k) (by omega)]
      go_wp2
      go_round
      case rel => exact ⟨k + 1, by omega, by go_num, by rw [← HS.out]⟩
      case measure => simp [intOf]; omega
    · obtain rfl : z = k := by omega
      go_wp2
      go_ret2
      exact ⟨rfl, rfl⟩
set_option maxHeartbeats 400000 in
theorem get_range (s : ByteArray) (a z : Int) (w : World) (h : (z < 1 ∨ 8 < z) ∨ a < 0) :
    Calls Tryd.prog 46 #[.string s, .int .i64 a, .int .i64 z] w fun e w' => e = .returned (.tuple #[.int .i64 0, .int .i64 1]) ∧ w = w' := by
  by_cases hz : z < 1 ∨ 8 < z
  · go_enter Tryd.func46, Tryd.ntmps46
    go_wp2_with (go_at_call 61; refine (valid_no _ _ (by assumption)).mono ?_; rintro e w' ⟨rfl, rfl⟩)
    go_ret2
    exact ⟨rfl, rfl⟩
  · have ha : a < 0 := by omega
    clear h
    go_enter Tryd.func46, Tryd.ntmps46
    go_wp2_with (go_at_call 61; refine (valid_yes _ _ (by omega) (by omega)).mono ?_; rintro e w' ⟨rfl, rfl⟩)
    go_ret2
    exact ⟨rfl, rfl⟩
set_option maxHeartbeats 400000 in
theorem get_short (s : ByteArray) (a z : Int) (w : World) (hs : s.size ≤ maxLen) (h1 : 1 ≤ z) (h8 : z ≤ 8) (ha : 0 ≤ a) (h : s.size < a + z) :
    Calls Tryd.prog 46 #[.string s, .int .i64 a, .int .i64 z] w fun e w' => e = .returned (.tuple #[.int .i64 0, .int .i64 5]) ∧ w = w' := by
  unfold maxLen at hs
  have h' : ¬ a ≤ (s.size : Int) - z := by omega
  go_enter Tryd.func46, Tryd.ntmps46
  go_wp2_with (go_at_call 61; refine (valid_yes _ _ (by omega) (by omega)).mono ?_; rintro e w' ⟨rfl, rfl⟩)
  go_ret2
  exact ⟨rfl, rfl⟩
theorem get_any (s : ByteArray) (a z : Int) (w : World) (hs : s.size ≤ maxLen) :
    Calls Tryd.prog 46 #[.string s, .int .i64 a, .int .i64 z] w fun e w' => e = .returned (.tuple #[.int .i64 (getR s a z).1, .int .i64 (getR s a z).2]) ∧ w = w' := by
  unfold getR
  by_cases h : (z < 1 ∨ 8 < z) ∨ a < 0
  · simp only [if_pos h]; exact get_range s a z w h
  · by_cases h' : (s.size : Int) < a + z
    · simp only [if_neg h, if_pos h']; exact get_short s a z w hs (by omega) (by omega) (by omega) h'
    · simp only [if_neg h, if_neg h']
      obtain ⟨x, rfl⟩ := Int.eq_ofNat_of_zero_le (show 0 ≤ a by omega)
      obtain ⟨y, rfl⟩ := Int.eq_ofNat_of_zero_le (show 0 ≤ z by omega)
      exact get_nat s x y w hs (by omega) (by omega) (by omega)
theorem put_any (s : ByteArray) (n z : Int) (w : World) (hs : s.size ≤ 4611686018427387904) :
    Calls Tryd.prog 53 #[.string s, .int .i64 n, .int .i64 z] w fun e w' => e = .returned (.string (putR s n z)) ∧ Below w.heap.size w w' := by
  unfold putR
  by_cases h : z < 1 ∨ 8 < z
  · simp only [if_pos h]; exact put_no s n z w h
  · simp only [if_neg h]; exact put_ok s n z w hs (by omega) (by omega)
end Go.Proofs.YtoceglomogcgcaaDoor
