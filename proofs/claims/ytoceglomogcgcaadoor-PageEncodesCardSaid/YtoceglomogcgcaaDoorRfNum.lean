/- the walks of Put and Get of the reference -/
import Derived.Test.YtoceglomogcgcaaDoorNum
namespace Go.Proofs.YtoceglomogcgcaaDoor
open Go.RowKit

set_option maxHeartbeats 400000 in
theorem rput_ok (s : ByteArray) (n size : Int) (w : World) (hs : s.size ≤ 4611686018427387904) (h1 : 1 ≤ size) (h8 : size ≤ 8) :
    Calls Tryd.prog 40 #[.string s, .int .i64 n, .int .i64 size] w fun e w' => e = .returned (.string (s ++ leS n size.toNat)) ∧ Below w.heap.size w w' := by
  go_enter Tryd.func40, Tryd.ntmps40
  go_wp2
  go_loopw [0, 7] (fun t i wr => ∃ k : Nat, (k : Int) ≤ size ∧ i = .int .i64 k ∧ t = .string (s ++ leS n k) ∧ Below w.heap.size w wr) (fun _ i _ => size.toNat - (intOf i).toNat)
  case atStart => exact ⟨0, by omega, rfl, by rw [show s ++ leS n 0 = s from str_eq (by rw [str_app]; simp [leS, leL])], Below.refl _ _⟩
  case round =>
    obtain ⟨k, hk, rfl, rfl, hb⟩ := hrel
    by_cases hlt : (k : Int) < size
    · have hll : (s ++ leS n k).size ≤ 4611686018427387904 + 8 := by rw [ByteArray.size_append, leS_size]; omega
      have HS : Hid (s ++ leS n (k + 1) = s ++ leS n k ++ ⟨#[leB n k]⟩) := by
        show _ = _
        apply str_eq
        simp only [str_app, leS, leL_succ, List.append_assoc]
      have hby := byte_of_u64 n k (by omega)
      generalize s ++ leS n k = t at *
      have hconv := conv_one wr (leB n k)
      generalize leB n k = b at *
      go_wp2
      go_roundw
      case rel => exact ⟨k + 1, by omega, by go_num, by rw [HS.out], hb.alloc hb.size _⟩
      case measure => simp [intOf]; omega
    · obtain rfl : size = (k : Int) := by omega
      go_wp2
      go_ret
      exact ⟨rfl, hb⟩
theorem rput_no (s : ByteArray) (n size : Int) (w : World) (h : size < 1 ∨ 8 < size) :
    Calls Tryd.prog 40 #[.string s, .int .i64 n, .int .i64 size] w fun e w' => e = .returned (.string s) ∧ Below w.heap.size w w' := by
  rcases h with h | h
  · go_enter Tryd.func40, Tryd.ntmps40
    go_wp2
    go_ret
    exact ⟨rfl, Below.refl _ _⟩
  · have h' : ¬ size < 1 := by omega
    go_enter Tryd.func40, Tryd.ntmps40
    go_wp2
    go_ret
    exact ⟨rfl, Below.refl _ _⟩
set_option maxHeartbeats 400000 in
theorem rget_nat (s : ByteArray) (a z : Nat) (w : World) (hs : s.size ≤ maxLen) (h1 : 1 ≤ z) (h8 : z ≤ 8) (hat : a + z ≤ s.size) :
    Calls Tryd.prog 48 #[.string s, .int .i64 a, .int .i64 z] w fun e w' => e = .returned (.tuple #[.int .i64 (wrap64 (leNum s a z)), .int .i64 0]) ∧ w = w' := by
  unfold maxLen at hs
  have h0 : (0 : Int) ≤ (a : Int) := by omega
  have h1' : (1 : Int) ≤ (z : Int) := by omega
  have h8' : (z : Int) ≤ 8 := by omega
  have d0 : decide ((a : Int) < 0) = false := by simp
  have d1 : decide ((z : Int) < 1) = false := by simp; omega
  have d2 : decide (8 < (z : Int)) = false := by simp; omega
  have d3 : decide (s.size < a) = false := by simp; omega
  have d4 : decide ((s.size : Int) - (a : Int) < (z : Int)) = false := by simp; omega
  go_enter Tryd.func48, Tryd.ntmps48
  go_wp2
  go_loop [8, 9] (fun x i => ∃ k : Nat, k ≤ z ∧ i = .int .i64 k ∧ x = .int .u64 (leNum s a k)) (fun _ i => z - (intOf i).toNat)
  case atStart => exact ⟨0, by omega, rfl, rfl⟩
  case round =>
    obtain ⟨k, hk, rfl, rfl⟩ := hrel
    by_cases hlt : k < z
    · have HS : Hid (bits .or .u64 (leNum s a k : Int) (IntKind.u64.wrap (IntKind.u64.wrap ((s[a + k].toNat : Nat) : Int) * 2 ^ (8 * k))) = (leNum s a (k + 1) : Int)) := by
        show _ = _
        rw [or_u64 _ _ _ (leNum_lt s a k) s[a + k].toNat_lt (by omega), leNum, getD_at s (a + k) (by omega)]
      go_wp2
      go_round
      case rel => exact ⟨k + 1, by omega, by go_num, by rw [← HS.out]⟩
      case measure => simp [intOf]; omega
    · obtain rfl : z = k := by omega
      go_wp2
      go_ret2
      exact ⟨rfl, rfl⟩
set_option maxHeartbeats 400000 in
theorem rget_range (s : ByteArray) (a z : Int) (w : World) (h : (z < 1 ∨ 8 < z) ∨ a < 0) :
    Calls Tryd.prog 48 #[.string s, .int .i64 a, .int .i64 z] w fun e w' => e = .returned (.tuple #[.int .i64 0, .int .i64 1]) ∧ w = w' := by
  by_cases h1 : z < 1
  · clear h
    have d1 : decide (z < 1) = true := by simpa using h1
    go_enter Tryd.func48, Tryd.ntmps48
    go_wp2
    go_ret2
    exact ⟨rfl, rfl⟩
  · have d1 : decide (z < 1) = false := by simpa using h1
    by_cases h8 : 8 < z
    · clear h
      have d8 : decide (8 < z) = true := by simpa using h8
      go_enter Tryd.func48, Tryd.ntmps48
      go_wp2
      go_ret2
      exact ⟨rfl, rfl⟩
    · have d8 : decide (8 < z) = false := by simpa using h8
      have ha : a < 0 := by omega
      have da : decide (a < 0) = true := by simpa using ha
      clear h
      go_enter Tryd.func48, Tryd.ntmps48
      go_wp2
      go_ret2
      exact ⟨rfl, rfl⟩
set_option maxHeartbeats 400000 in
theorem rget_short (s : ByteArray) (a z : Int) (w : World) (_hs : s.size ≤ maxLen) (h1 : 1 ≤ z) (h8 : z ≤ 8) (ha : 0 ≤ a) (h : s.size < a + z) :
    Calls Tryd.prog 48 #[.string s, .int .i64 a, .int .i64 z] w fun e w' => e = .returned (.tuple #[.int .i64 0, .int .i64 5]) ∧ w = w' := by
  unfold maxLen at _hs
  have d0 : decide (a < 0) = false := by simp; omega
  have d1 : decide (z < 1) = false := by simp; omega
  have d2 : decide (8 < z) = false := by simp; omega
  by_cases hl : (s.size : Int) < a
  · have d3 : decide ((s.size : Int) < a) = true := by simpa using hl
    go_enter Tryd.func48, Tryd.ntmps48
    go_wp2
    go_ret2
    exact ⟨rfl, rfl⟩
  · have d3 : decide ((s.size : Int) < a) = false := by simpa using hl
    have d4 : decide ((s.size : Int) - a < z) = true := by simp; omega
    go_enter Tryd.func48, Tryd.ntmps48
    go_wp2
    go_ret2
    exact ⟨rfl, rfl⟩
theorem rget_any (s : ByteArray) (a z : Int) (w : World) (hs : s.size ≤ maxLen) :
    Calls Tryd.prog 48 #[.string s, .int .i64 a, .int .i64 z] w fun e w' => e = .returned (.tuple #[.int .i64 (getR s a z).1, .int .i64 (getR s a z).2]) ∧ w = w' := by
  unfold getR
  by_cases h : (z < 1 ∨ 8 < z) ∨ a < 0
  · simp only [if_pos h]; exact rget_range s a z w h
  · by_cases h' : (s.size : Int) < a + z
    · simp only [if_neg h, if_pos h']; exact rget_short s a z w hs (by omega) (by omega) (by omega) h'
    · simp only [if_neg h, if_neg h']
      obtain ⟨x, rfl⟩ := Int.eq_ofNat_of_zero_le (show 0 ≤ a by omega)
      obtain ⟨y, rfl⟩ := Int.eq_ofNat_of_zero_le (show 0 ≤ z by omega)
      exact rget_nat s x y w hs (by omega) (by omega) (by omega)
theorem rput_any (s : ByteArray) (n z : Int) (w : World) (hs : s.size ≤ 4611686018427387904) :
    Calls Tryd.prog 40 #[.string s, .int .i64 n, .int .i64 z] w fun e w' => e = .returned (.string (putR s n z)) ∧ Below w.heap.size w w' := by
  unfold putR
  by_cases h : z < 1 ∨ 8 < z
  · simp only [if_pos h]; exact rput_no s n z w h
  · simp only [if_neg h]; exact rput_ok s n z w hs (by omega) (by omega)
end Go.Proofs.YtoceglomogcgcaaDoor
