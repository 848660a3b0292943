/- the law CodecBack: numbers are read back, whatever stands before and behind them -/
import Derived.Test.YtccepdbglgpniaaDoorCdL1
namespace Go.Proofs.YtccepdbglgpniaaDoor
open Go.RowKit

theorem leNum_of (s : ByteArray) (a : Nat) (n : Int) (k : Nat) (h : ∀ i, i < k → s.data.toList.getD (a + i) 0 = leB n i) : (leNum s a k : Int) = n % 2 ^ (8 * k) := by
  induction k with
  | zero => simp [leNum, Int.emod_one]
  | succ k ih =>
    have ih' := ih (fun i hi => h i (by omega))
    rw [leNum, h k (by omega)]
    have hb := leB_toNat n k
    have e1 : (2 : Int) ^ (8 * (k + 1)) = 2 ^ (8 * k) * 256 := by rw [show 8 * (k + 1) = 8 * k + 8 from by omega, Int.pow_add]; rfl
    have e2 : ((256 ^ k : Nat) : Int) = 2 ^ (8 * k) := by rw [show (256 : Nat) = 2 ^ 8 from rfl, ← Nat.pow_mul]; simp
    have hp : (0 : Int) < 2 ^ (8 * k) := Int.pow_pos (by decide)
    rw [Int.natCast_add, Int.natCast_mul, e2, ih', hb, e1]
    generalize (2 : Int) ^ (8 * k) = q at *
    have c0 := Int.emod_add_mul_ediv n q
    have c1 := Int.emod_add_mul_ediv (n / q) 256
    have b0 := Int.emod_nonneg n (show q ≠ 0 by omega)
    have b1 := Int.emod_lt_of_pos n hp
    have b2 := Int.emod_nonneg (n / q) (show (256 : Int) ≠ 0 by decide)
    have b3 := Int.emod_lt_of_pos (n / q) (show (0 : Int) < 256 by decide)
    have hn : n = (n % q + q * (n / q % 256)) + q * 256 * (n / q / 256) := by
      rw [Int.mul_assoc, Int.add_assoc, ← Int.mul_add, c1, c0]
    have hr0 : 0 ≤ n % q + q * (n / q % 256) := Int.add_nonneg b0 (Int.mul_nonneg (by omega) b2)
    have hr1 : n % q + q * (n / q % 256) < q * 256 := by
      have : q * (n / q % 256) ≤ q * 255 := Int.mul_le_mul_of_nonneg_left (by omega) (by omega)
      omega
    conv => rhs; rw [hn]
    rw [Int.add_mul_emod_self_left, Int.emod_eq_of_lt hr0 hr1, Int.mul_comm]
theorem at_put (x y : ByteArray) (n : Int) (k i : Nat) (hi : i < k) : (x ++ leS n k ++ y).data.toList.getD (x.size + i) 0 = leB n i := by
  rw [str_app, str_app, List.append_assoc]
  have hx : x.data.toList.length = x.size := by simp
  have hl : (leS n k).data.toList = leL n k := by simp [leS]
  have hlen := leL_length n k
  rw [hl, ← hx, List.getD_eq_getElem?_getD, List.getElem?_append_right (by omega), Nat.add_sub_cancel_left, List.getElem?_append_left (by omega), List.getElem?_eq_getElem (by omega), Option.getD_some, leL_getD n k i hi]
theorem get_put (x y : ByteArray) (n : Int) (k : Nat) (h1 : 1 ≤ k) (h8 : k ≤ 8) : getR (x ++ leS n k ++ y) x.size k = (wrap64 (n % 2 ^ (8 * k)), 0) := by
  unfold getR
  have hz : (x ++ leS n k ++ y).size = x.size + k + y.size := by rw [ByteArray.size_append, ByteArray.size_append, leS_size]
  rw [if_neg (by omega), if_neg (by rw [hz]; omega)]
  rw [show (x.size : Int).toNat = x.size from rfl, show (k : Int).toNat = k from rfl, leNum_of _ _ n k (fun i hi => at_put x y n k i hi)]

theorem want_i64 (n : Int) (m : Nat) (h1 : 1 ≤ m) (h7 : m < 8) : bits .and .i64 n (wrap64 (wrap64 (2 ^ (8 * (m : Int)).toNat) - 1)) = wrap64 (n % 2 ^ (8 * m)) := by
  rw [show (8 * (m : Int)).toNat = 8 * m from by omega]
  have hp : (2 : Int) ^ (8 * m) = ((2 ^ (8 * m) : Nat) : Int) := by simp
  have hle : 2 ^ (8 * m) ≤ 2 ^ 56 := Nat.pow_le_pow_right (by decide) (by omega)
  have hlo : 1 ≤ 2 ^ (8 * m) := Nat.one_le_two_pow
  rw [hp]
  have c1 : wrap64 ((2 ^ (8 * m) : Nat) : Int) = ((2 ^ (8 * m) : Nat) : Int) := IntWalk.wrap64_in _ ⟨by omega, by omega⟩
  rw [c1]
  have c2 : wrap64 (((2 ^ (8 * m) : Nat) : Int) - 1) = ((2 ^ (8 * m) - 1 : Nat) : Int) := by
    rw [IntWalk.wrap64_in _ ⟨by omega, by omega⟩]; omega
  rw [c2]
  show IntKind.i64.wrap ((BitVec.ofInt 64 n &&& BitVec.ofInt 64 ((2 ^ (8 * m) - 1 : Nat) : Int)).toNat : Int) = _
  rw [w64, BitVec.ofInt_natCast, BitVec.toNat_and, BitVec.toNat_ofNat, Nat.mod_eq_of_lt (a := 2 ^ (8 * m) - 1) (by omega), Nat.and_two_pow_sub_one_eq_mod, BitVec.toNat_ofInt]
  congr 1
  have hdvd : ((2 ^ (8 * m) : Nat) : Int) ∣ ((2 ^ 64 : Nat) : Int) := by
    apply Int.natCast_dvd_natCast.2
    exact Nat.pow_dvd_pow 2 (by omega)
  rw [Int.natCast_emod, Int.toNat_of_nonneg (Int.emod_nonneg _ (by decide)), Int.emod_emod_of_dvd _ hdvd]

set_option maxHeartbeats 1000000 in
theorem back_any (n z : Int) (x y : ByteArray) (w : World) (hx : x.size ≤ maxLen) (hy : y.size ≤ maxLen) (ht : TabAt w) (n0 : -9223372036854775808 ≤ n) (n1 : n ≤ 9223372036854775807) (z0 : 0 ≤ z) (z1 : z ≤ 255) :
    Calls Tryd.prog 4 #[.int .i64 n, .int .u8 z, .string x, .string y] w fun e w' => e = .returned (.bool true) ∧ Below w.heap.size w w' := by
  unfold maxLen at hx hy
  have HT := Lib.hid ht
  clear ht
  by_cases hl : 300 < x.size
  · have d1 : decide (300 < (x.size : Int)) = true := by simp; omega
    go_enter Tryd.func4, Tryd.ntmps4
    go_wp2_with (go_at_call 8; refine (awake_any _ HT.out).mono ?_; rintro e w1 ⟨rfl, hb⟩)
    go_ret
    exact ⟨rfl, by assumption⟩
  have d1 : decide (300 < (x.size : Int)) = false := by simp; omega
  by_cases hl2 : 300 < y.size
  · have d2 : decide (300 < (y.size : Int)) = true := by simp; omega
    go_enter Tryd.func4, Tryd.ntmps4
    go_wp2_with (go_at_call 8; refine (awake_any _ HT.out).mono ?_; rintro e w1 ⟨rfl, hb⟩)
    go_ret
    exact ⟨rfl, by assumption⟩
  have d2 : decide (300 < (y.size : Int)) = false := by simp; omega
  obtain ⟨m, hm⟩ : ∃ m : Nat, 1 + z % 8 = m := ⟨(1 + z % 8).toNat, by omega⟩
  have m1 : 1 ≤ m := by omega
  have m8 : m ≤ 8 := by omega
  have HM := Lib.hid hm
  clear hm
  by_cases h7 : m < 8
  · have h7' : 1 + z % 8 < 8 := by have := HM.out; omega
    go_enter Tryd.func4, Tryd.ntmps4
    go_wp2_with fail
    refine (awake_any _ HT.out).mono ?_
    rintro e w1 ⟨rfl, hb⟩
    go_wp2_with fail
    rw [HM.out]
    clear h7'
    refine (put_any _ _ _ _ (by omega)).mono ?_
    rintro e w2 ⟨rfl, hb2⟩
    rw [show putR x n m = x ++ leS n m from by unfold putR; rw [if_neg (by omega)]; rfl]
    have hz : (x ++ leS n m).size = x.size + m := by rw [ByteArray.size_append, leS_size]
    have hz2 : (x ++ leS n m ++ y).size ≤ 1000 := by rw [ByteArray.size_append, hz]; omega
    have HG := Lib.hid (get_put x y n m m1 m8)
    have HZ := Lib.hid hz
    have hz1 : (x ++ leS n m).size ≤ 308 := by omega
    clear hz
    generalize x ++ leS n m = p at *
    go_wp2_with fail
    refine (get_any _ _ _ _ (by unfold maxLen; omega)).mono ?_
    rintro e w3 ⟨rfl, rfl⟩
    rw [HG.out, want_i64 n m m1 h7]
    generalize wrap64 (n % 2 ^ (8 * m)) = g
    have hz : ((p.size : Int) == (x.size : Int) + (m : Int)) = true := by rw [HZ.out]; simp
    go_wp2
    go_ret
    exact ⟨rfl, hb.trans (hb2.mono hb.size)⟩
  · have h7' : ¬ 1 + z % 8 < 8 := by have := HM.out; omega
    have HW : Hid (wrap64 (n % 2 ^ (8 * m)) = n) := by
      obtain rfl : m = 8 := by omega
      show _ = _
      rw [show (2 : Int) ^ (8 * 8) = 18446744073709551616 from by decide]
      unfold wrap64; omega
    go_enter Tryd.func4, Tryd.ntmps4
    go_wp2_with fail
    refine (awake_any _ HT.out).mono ?_
    rintro e w1 ⟨rfl, hb⟩
    go_wp2_with fail
    rw [HM.out]
    clear h7'
    refine (put_any _ _ _ _ (by omega)).mono ?_
    rintro e w2 ⟨rfl, hb2⟩
    rw [show putR x n m = x ++ leS n m from by unfold putR; rw [if_neg (by omega)]; rfl]
    have hz : (x ++ leS n m).size = x.size + m := by rw [ByteArray.size_append, leS_size]
    have hz2 : (x ++ leS n m ++ y).size ≤ 1000 := by rw [ByteArray.size_append, hz]; omega
    have HG := Lib.hid (get_put x y n m m1 m8)
    have HZ := Lib.hid hz
    have hz1 : (x ++ leS n m).size ≤ 308 := by omega
    clear hz
    generalize x ++ leS n m = p at *
    go_wp2_with fail
    refine (get_any _ _ _ _ (by unfold maxLen; omega)).mono ?_
    rintro e w3 ⟨rfl, rfl⟩
    rw [HG.out, HW.out]
    have hz : ((p.size : Int) == (x.size : Int) + (m : Int)) = true := by rw [HZ.out]; simp
    go_wp2
    go_ret
    exact ⟨rfl, hb.trans (hb2.mono hb.size)⟩
end Go.Proofs.YtccepdbglgpniaaDoor
