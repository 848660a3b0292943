/- the walks of Put and Get, of the program and of the reference -/
import Derived.Test.YtccepdbglgpniaaDoorRows
import Derived.WalkKit
import Derived.WalkSpells
import Derived.WalkLawsBesides
import Derived.Lib.Hide
import Derived.Below
import Derived.LoopN
namespace Go.Proofs.YtccepdbglgpniaaDoor
open Go.RowKit

/-- byte k of a number -/
def leB (n : Int) (k : Nat) : UInt8 := UInt8.ofNat (n / 2 ^ (8 * k) % 256).toNat
theorem leB_toNat (n : Int) (k : Nat) : ((leB n k).toNat : Int) = n / 2 ^ (8 * k) % 256 := by
  unfold leB
  have h0 := Int.emod_nonneg (n / 2 ^ (8 * k)) (show (256 : Int) ≠ 0 by decide)
  have h1 := Int.emod_lt_of_pos (n / 2 ^ (8 * k)) (show (0 : Int) < 256 by decide)
  generalize n / 2 ^ (8 * k) % 256 = x at *
  rw [UInt8.toNat_ofNat']
  omega
/-- the lowest k bytes of a number -/
def leL (n : Int) (k : Nat) : List UInt8 := (List.range k).map (leB n)
def leS (n : Int) (k : Nat) : ByteArray := ⟨(leL n k).toArray⟩
theorem leL_length (n : Int) (k : Nat) : (leL n k).length = k := by simp [leL]
theorem leS_size (n : Int) (k : Nat) : (leS n k).size = k := by
  show (leL n k).toArray.size = k
  simp [leL_length]
theorem leL_succ (n : Int) (k : Nat) : leL n (k + 1) = leL n k ++ [leB n k] := by
  unfold leL; rw [List.range_succ, List.map_append]; rfl
theorem leL_getD (n : Int) (k j : Nat) (h : j < k) : (leL n k)[j]'(by rw [leL_length]; exact h) = leB n j := by
  simp [leL]

theorem str_eq {a b : ByteArray} (h : a.data.toList = b.data.toList) : a = b := by
  apply ByteArray.ext; apply Array.toList_inj.1; exact h
theorem str_app (a b : ByteArray) : (a ++ b).data.toList = a.data.toList ++ b.data.toList := by
  rw [ByteArray.data_append, Array.toList_append]
theorem ret_str {a b : ByteArray} (h : a = b) : Ending.returned (.string a) = .returned (.string b) := by rw [h]

/-- what holds of Put's array behind k rounds -/
def PutRel (n : Int) (w wr : World) (k : Nat) : Prop :=
  Below w.heap.size w wr ∧ w.heap.size < wr.heap.size ∧ (∀ j, j < 8 → wr.cell? ⟨w.heap.size, j, none⟩ = some (.int .u8 (if j < k then n / 2 ^ (8 * j) % 256 else 0))) ∧ (∀ j, j < 8 → wr.frozen? ⟨w.heap.size, j, none⟩ = false)
theorem putRel_set {n : Int} {w wr : World} {k : Nat} (h : PutRel n w wr k) (hk : k < 8) : PutRel n w (wr.setCell ⟨w.heap.size, k, none⟩ (.int .u8 (n / 2 ^ (8 * k) % 256))) (k + 1) := by
  obtain ⟨hb, hz, hc, hf⟩ := h
  refine ⟨hb.setCell (Nat.le_refl _) _, by simpa using hz, fun j hj => ?_, fun j hj => by rw [World.frozen?_setCell]; exact hf j hj⟩
  by_cases e : j = k
  · subst e
    rw [World.cell?_setCell_same wr _ _ (hc j hj), if_pos (by omega)]
  · rw [World.cell?_setCell_other wr _ _ _ (by intro h; cases h; exact e rfl), hc j hj]
    by_cases hjk : j < k
    · rw [if_pos hjk, if_pos (by omega)]
    · rw [if_neg hjk, if_neg (by omega)]

theorem u9 : Tryd.prog.underlying 9 = some .string := Tryd.underlying9

set_option maxHeartbeats 400000 in
theorem put_ok (s : ByteArray) (n size : Int) (w : World) (hs : s.size ≤ 4611686018427387904) (h1 : 1 ≤ size) (h8 : size ≤ 8) :
    Calls Tryd.prog 9 #[.string s, .int .i64 n, .int .i64 size] w fun e w' => e = .returned (.string (s ++ leS n size.toNat)) ∧ Below w.heap.size w w' := by
  go_enter Tryd.func9, Tryd.ntmps9
  go_wp2
  go_loopw [8, 14] (fun _ i wr => ∃ k : Nat, (k : Int) ≤ size ∧ i = .int .i64 k ∧ PutRel n w wr k) (fun _ i _ => size.toNat - (intOf i).toNat)
  case atStart =>
    refine ⟨0, by omega, rfl, (Below.refl _ _).alloc (Nat.le_refl _) _, by simp, fun j hj => ?_, fun j hj => by simp⟩
    simp only [World.cell?_alloc_new]
    match j, hj with
    | 0, _ => rfl
    | 1, _ => rfl
    | 2, _ => rfl
    | 3, _ => rfl
    | 4, _ => rfl
    | 5, _ => rfl
    | 6, _ => rfl
    | 7, _ => rfl
  case round =>
    obtain ⟨k, hk, rfl, hr⟩ := hrel
    by_cases hlt : (k : Int) < size
    · have hset := putRel_set hr (by omega)
      have hc := hr.2.2.1 k (by omega)
      have hf := hr.2.2.2 k (by omega)
      clear hr
      go_wp2
      go_roundw
      case rel => exact ⟨k + 1, by omega, by go_num, hset⟩
      case measure => simp [intOf]; omega
    · obtain rfl : size = (k : Int) := by omega
      have hconv := run_convert_bytes_back (P := Tryd.prog) wr 31 9 5 ⟨w.heap.size, 0, none⟩ 8 (leL n k) Tryd.underlying31 Tryd.underlying5 Tryd.underlying9 (fun j hj => by
        rw [leL_length] at hj
        rw [leL_getD n k j hj, leB_toNat]
        have := hr.2.2.1 j (by omega)
        rw [if_pos hj] at this
        have ea : (⟨w.heap.size, 0, none⟩ : Addr).add j = ⟨w.heap.size, j, none⟩ := by
          simp only [Addr.add]; split
          · next h => rw [h]
          · simp
        rw [ea]; exact this)
      rw [leL_length] at hconv
      have hll : (leL n k).length ≤ 8 := by rw [leL_length]; omega
      have hb := hr.1
      clear hr
      go_wp2
      go_ret
      exact ⟨rfl, hb⟩

/-- a size that there is no number of: the text stays -/
theorem put_no (s : ByteArray) (n size : Int) (w : World) (h : size < 1 ∨ 8 < size) :
    Calls Tryd.prog 9 #[.string s, .int .i64 n, .int .i64 size] w fun e w' => e = .returned (.string s) ∧ Below w.heap.size w w' := by
  rcases h with h | h
  · have h' : ¬ 1 ≤ size := by omega
    go_enter Tryd.func9, Tryd.ntmps9
    go_wp2
    go_ret
    exact ⟨rfl, Below.refl _ _⟩
  · have h' : 1 ≤ size := by omega
    have h'' : ¬ size ≤ 8 := by omega
    go_enter Tryd.func9, Tryd.ntmps9
    go_wp2
    go_ret
    exact ⟨rfl, Below.refl _ _⟩

theorem byte_of_u64 (n : Int) (k : Nat) (hk : k < 8) : IntKind.u64.wrap n / 2 ^ (8 * k) % 256 = ((leB n k).toNat : Int) := by
  rw [IntKind.wrap_u64, leB_toNat]
  match k, hk with
  | 0, _ => simp only [Nat.mul_zero, Int.pow_zero]; omega
  | 1, _ => simp only [show (2 : Int) ^ (8 * 1) = 256 from by decide]; omega
  | 2, _ => simp only [show (2 : Int) ^ (8 * 2) = 65536 from by decide]; omega
  | 3, _ => simp only [show (2 : Int) ^ (8 * 3) = 16777216 from by decide]; omega
  | 4, _ => simp only [show (2 : Int) ^ (8 * 4) = 4294967296 from by decide]; omega
  | 5, _ => simp only [show (2 : Int) ^ (8 * 5) = 1099511627776 from by decide]; omega
  | 6, _ => simp only [show (2 : Int) ^ (8 * 6) = 281474976710656 from by decide]; omega
  | 7, _ => simp only [show (2 : Int) ^ (8 * 7) = 72057594037927936 from by decide]; omega

/-- a text of one byte -/
theorem conv_one (w : World) (b : UInt8) : Sem.run Tryd.prog (convert 31 9 (.slice (some ⟨w.heap.size, 0, none⟩) 1 1)) (w.alloc (.cells #[.int .u8 (b.toNat : Int)] 5)) = .ok (.string ⟨#[b]⟩) (w.alloc (.cells #[.int .u8 (b.toNat : Int)] 5)) :=
  run_convert_bytes_back (P := Tryd.prog) (w.alloc (.cells #[.int .u8 (b.toNat : Int)] 5)) 31 9 5 ⟨w.heap.size, 0, none⟩ 1 [b] Tryd.underlying31 Tryd.underlying5 Tryd.underlying9 (fun j hj => by
    have : j = 0 := by simpa using hj
    subst this
    show (w.alloc _).cell? ⟨w.heap.size, 0, none⟩ = _
    rw [World.cell?_alloc_new]; rfl)

set_option maxHeartbeats 400000 in
theorem rput_ok (s : ByteArray) (n size : Int) (w : World) (hs : s.size ≤ 4611686018427387904) (h1 : 1 ≤ size) (h8 : size ≤ 8) :
    Calls Tryd.prog 10 #[.string s, .int .i64 n, .int .i64 size] w fun e w' => e = .returned (.string (s ++ leS n size.toNat)) ∧ Below w.heap.size w w' := by
  go_enter Tryd.func10, Tryd.ntmps10
  go_wp2
  go_loopw [0, 7] (fun t i wr => ∃ k : Nat, (k : Int) ≤ size ∧ i = .int .i64 k ∧ t = .string (s ++ leS n k) ∧ Below w.heap.size w wr) (fun _ i _ => size.toNat - (intOf i).toNat)
  case atStart => exact ⟨0, by omega, rfl, by rw [show s ++ leS n 0 = s from str_eq (by rw [str_app]; simp [leS, leL])], Below.refl _ _⟩
  case round =>
    obtain ⟨k, hk, rfl, rfl, hb⟩ := hrel
    by_cases hlt : (k : Int) < size
    · have hll : (s ++ leS n k).size ≤ 4611686018427387904 + 8 := by rw [ByteArray.size_append, leS_size]; omega
      have HS : Hid (s ++ leS n (k + 1) = s ++ leS n k ++ ⟨#[leB n k]⟩) := by
        show _ = _
        apply str_eq
        simp only [str_app, leS, leL_succ, List.append_assoc]
      have hby := byte_of_u64 n k (by omega)
      generalize s ++ leS n k = t at *
      have hconv := conv_one wr (leB n k)
      generalize leB n k = b at *
      go_wp2
      go_roundw
      case rel => exact ⟨k + 1, by omega, by go_num, by rw [HS.out], hb.alloc hb.size _⟩
      case measure => simp [intOf]; omega
    · obtain rfl : size = (k : Int) := by omega
      go_wp2
      go_ret
      exact ⟨rfl, hb⟩
theorem rput_no (s : ByteArray) (n size : Int) (w : World) (h : size < 1 ∨ 8 < size) :
    Calls Tryd.prog 10 #[.string s, .int .i64 n, .int .i64 size] w fun e w' => e = .returned (.string s) ∧ Below w.heap.size w w' := by
  rcases h with h | h
  · go_enter Tryd.func10, Tryd.ntmps10
    go_wp2
    go_ret
    exact ⟨rfl, Below.refl _ _⟩
  · have h' : ¬ size < 1 := by omega
    go_enter Tryd.func10, Tryd.ntmps10
    go_wp2
    go_ret
    exact ⟨rfl, Below.refl _ _⟩

/-- the number in bytes, without a sign -/
def leNum (s : ByteArray) (at_ : Nat) : Nat → Nat
  | 0 => 0
  | k + 1 => leNum s at_ k + (s.data.toList.getD (at_ + k) 0).toNat * 256 ^ k
theorem leNum_lt (s : ByteArray) (at_ k : Nat) : leNum s at_ k < 256 ^ k := by
  induction k with
  | zero => simp [leNum]
  | succ k ih =>
    have hb : (s.data.toList.getD (at_ + k) 0).toNat ≤ 255 := by have := (s.data.toList.getD (at_ + k) 0).toNat_lt; omega
    have hm := Nat.mul_le_mul_right (256 ^ k) hb
    rw [leNum, Nat.pow_succ]
    omega

theorem getD_at (s : ByteArray) (i : Nat) (h : i < s.size) : s.data.toList.getD i 0 = s[i] := by
  have h' : i < s.data.toList.length := by simpa using h
  rw [List.getD_eq_getElem?_getD, List.getElem?_eq_getElem h', Option.getD_some]; rfl
theorem ofInt_wrap (k : IntKind) (x : Int) : BitVec.ofInt k.bits (k.wrap x) = BitVec.ofInt k.bits x := by
  apply BitVec.eq_of_toInt_eq
  rw [BitVec.toInt_ofInt, BitVec.toInt_ofInt]
  have : (k.wrap x) % (2 ^ k.bits : Nat) = x % (2 ^ k.bits : Nat) := by
    unfold IntKind.wrap
    simp only []
    split
    · rw [show ((2 : Int) ^ k.bits) = ((2 ^ k.bits : Nat) : Int) from by simp, Int.sub_emod_right, Int.emod_emod]
    · rw [show ((2 : Int) ^ k.bits) = ((2 ^ k.bits : Nat) : Int) from by simp, Int.emod_emod]
  rw [← Int.emod_bmod, this, Int.emod_bmod]
theorem w64 (n : Int) : IntKind.i64.wrap n = wrap64 n := by rw [IntKind.wrap_i64]; unfold wrap64; rfl
/-- a byte more, by 'or': whatever the kind of 64 bits -/
theorem or_nat (X b k : Nat) (hX : X < 256 ^ k) (hb : b < 256) (hk : k < 8) :
    (BitVec.ofInt 64 (X : Int) ||| BitVec.ofInt 64 ((b : Int) * 2 ^ (8 * k))).toNat = X + b * 256 ^ k := by
  have e1 : (2 : Int) ^ (8 * k) = ((256 ^ k : Nat) : Int) := by
    rw [show (256 : Nat) = 2 ^ 8 from rfl, ← Nat.pow_mul]; simp
  have e2 : (b : Int) * 2 ^ (8 * k) = ((b * 256 ^ k : Nat) : Int) := by rw [e1]; simp
  have hle : 256 ^ k * 256 ≤ 2 ^ 64 := by
    have : 256 ^ (k + 1) ≤ 256 ^ 8 := Nat.pow_le_pow_right (by decide) (by omega)
    rw [Nat.pow_succ] at this
    exact this
  have hbk : b * 256 ^ k ≤ 255 * 256 ^ k := Nat.mul_le_mul_right _ (by omega)
  rw [e2, BitVec.ofInt_natCast, BitVec.ofInt_natCast, BitVec.toNat_or, BitVec.toNat_ofNat, BitVec.toNat_ofNat, Nat.mod_eq_of_lt (by omega), Nat.mod_eq_of_lt (by omega)]
  have e3 : 256 ^ k = 2 ^ (8 * k) := by rw [show (256 : Nat) = 2 ^ 8 from rfl, ← Nat.pow_mul]
  rw [e3] at hX ⊢
  rw [Nat.or_comm, Nat.mul_comm b, ← Nat.two_pow_add_eq_or_of_lt hX, Nat.add_comm]
theorem or_i64 (X b k : Nat) (hX : X < 256 ^ k) (hb : b < 256) (hk : k < 8) :
    bits .or .i64 (wrap64 (X : Int)) (wrap64 (wrap64 (b : Int) * 2 ^ (8 * k))) = wrap64 ((X + b * 256 ^ k : Nat) : Int) := by
  have w1 : wrap64 (b : Int) = (b : Int) := IntWalk.wrap64_in _ ⟨by omega, by omega⟩
  rw [w1]
  show IntKind.i64.wrap ((BitVec.ofInt 64 (wrap64 (X : Int)) ||| BitVec.ofInt 64 (wrap64 ((b : Int) * 2 ^ (8 * k)))).toNat : Int) = _
  have a1 : BitVec.ofInt 64 (wrap64 (X : Int)) = BitVec.ofInt 64 (X : Int) := by rw [← w64]; exact ofInt_wrap .i64 _
  have a2 : BitVec.ofInt 64 (wrap64 ((b : Int) * 2 ^ (8 * k))) = BitVec.ofInt 64 ((b : Int) * 2 ^ (8 * k)) := by rw [← w64]; exact ofInt_wrap .i64 _
  rw [a1, a2, or_nat X b k hX hb hk, w64]

theorem valid_yes (z : Int) (w : World) (h1 : 1 ≤ z) (h8 : z ≤ 8) : Calls Tryd.prog 22 #[.int .i64 z] w fun e w' => e = .returned (.bool true) ∧ w = w' := by
  go_enter Tryd.func22, Tryd.ntmps22
  go_wp2
  go_ret
  exact ⟨rfl, rfl⟩
theorem valid_no (z : Int) (w : World) (h : z < 1 ∨ 8 < z) : Calls Tryd.prog 22 #[.int .i64 z] w fun e w' => e = .returned (.bool false) ∧ w = w' := by
  rcases h with h | h
  · have h' : ¬ 1 ≤ z := by omega
    go_enter Tryd.func22, Tryd.ntmps22
    go_wp2
    go_ret
    exact ⟨rfl, rfl⟩
  · have h' : 1 ≤ z := by omega
    have h'' : ¬ z ≤ 8 := by omega
    go_enter Tryd.func22, Tryd.ntmps22
    go_wp2
    go_ret
    exact ⟨rfl, rfl⟩

theorem wrap64_0 : wrap64 0 = 0 := IntWalk.wrap64_in 0 (by omega)
set_option maxHeartbeats 400000 in
theorem get_nat (s : ByteArray) (a z : Nat) (w : World) (hs : s.size ≤ maxLen) (h1 : 1 ≤ z) (h8 : z ≤ 8) (hat : a + z ≤ s.size) :
    Calls Tryd.prog 11 #[.string s, .int .i64 a, .int .i64 z] w fun e w' => e = .returned (.tuple #[.int .i64 (wrap64 (leNum s a z)), .int .i64 0]) ∧ w = w' := by
  unfold maxLen at hs
  have h0 : (0 : Int) ≤ (a : Int) := by omega
  have h1' : (1 : Int) ≤ (z : Int) := by omega
  have h8' : (z : Int) ≤ 8 := by omega
  have d0 : decide ((a : Int) < 0) = false := by simp
  have d1 : decide ((s.size : Int) - (z : Int) < (a : Int)) = false := by simp; omega
  go_enter Tryd.func11, Tryd.ntmps11
  go_wp2_with (go_at_call 22; refine (valid_yes _ _ (by omega) (by omega)).mono ?_; rintro e w' ⟨rfl, rfl⟩)
  go_loop [8, 9, 24] (fun x _ i => ∃ k : Nat, k ≤ z ∧ i = .int .i64 k ∧ x = .int .i64 (wrap64 (leNum s a k))) (fun _ _ i => z - (intOf i).toNat)
  case atStart => exact ⟨0, by omega, rfl, by rw [show ((leNum s a 0 : Nat) : Int) = 0 from rfl, wrap64_0]⟩
  case round =>
    obtain ⟨k, hk, rfl, rfl⟩ := hrel
    by_cases hlt : k < z
    · have HS : Hid (bits .or .i64 (wrap64 (leNum s a k : Int)) (wrap64 (wrap64 ((s[a + k].toNat : Nat) : Int) * 2 ^ (8 * k))) = wrap64 (leNum s a (k + 1) : Int)) := by
        show _ = _
        rw [or_i64 _ _ _ (leNum_lt s a k) s[a + k].toNat_lt (by omega), leNum, getD_at s (a + k) (by omega)]
      go_wp2
      go_round
      case rel => exact ⟨k + 1, by omega, by go_num, by rw [← HS.out]⟩
      case measure => simp [intOf]; omega
    · obtain rfl : z = k := by omega
      go_wp2
      go_ret2
      exact ⟨rfl, rfl⟩

theorem or_u64 (X b k : Nat) (hX : X < 256 ^ k) (hb : b < 256) (hk : k < 8) :
    bits .or .u64 (X : Int) (IntKind.u64.wrap (IntKind.u64.wrap (b : Int) * 2 ^ (8 * k))) = ((X + b * 256 ^ k : Nat) : Int) := by
  have w1 : IntKind.u64.wrap (b : Int) = (b : Int) := by rw [IntKind.wrap_u64]; omega
  rw [w1]
  show IntKind.u64.wrap ((BitVec.ofInt 64 (X : Int) ||| BitVec.ofInt 64 (IntKind.u64.wrap ((b : Int) * 2 ^ (8 * k)))).toNat : Int) = _
  have a2 : BitVec.ofInt 64 (IntKind.u64.wrap ((b : Int) * 2 ^ (8 * k))) = BitVec.ofInt 64 ((b : Int) * 2 ^ (8 * k)) := ofInt_wrap .u64 _
  rw [a2]
  have hlt := (BitVec.ofInt 64 (X : Int) ||| BitVec.ofInt 64 ((b : Int) * 2 ^ (8 * k))).isLt
  rw [or_nat X b k hX hb hk] at hlt ⊢
  rw [IntKind.wrap_u64]
  omega
theorem u64_in (x : Nat) (h : x < 18446744073709551616) : IntKind.u64.wrap (x : Int) = (x : Int) := by rw [IntKind.wrap_u64]; omega
set_option maxHeartbeats 400000 in
theorem rget_nat (s : ByteArray) (a z : Nat) (w : World) (hs : s.size ≤ maxLen) (h1 : 1 ≤ z) (h8 : z ≤ 8) (hat : a + z ≤ s.size) :
    Calls Tryd.prog 12 #[.string s, .int .i64 a, .int .i64 z] w fun e w' => e = .returned (.tuple #[.int .i64 (wrap64 (leNum s a z)), .int .i64 0]) ∧ w = w' := by
  unfold maxLen at hs
  have h0 : (0 : Int) ≤ (a : Int) := by omega
  have h1' : (1 : Int) ≤ (z : Int) := by omega
  have h8' : (z : Int) ≤ 8 := by omega
  have d0 : decide ((a : Int) < 0) = false := by simp
  have d1 : decide ((z : Int) < 1) = false := by simp; omega
  have d2 : decide (8 < (z : Int)) = false := by simp; omega
  have d3 : decide (s.size < a) = false := by simp; omega
  have d4 : decide ((s.size : Int) - (a : Int) < (z : Int)) = false := by simp; omega
  go_enter Tryd.func12, Tryd.ntmps12
  go_wp2
  go_loop [8, 9] (fun x i => ∃ k : Nat, k ≤ z ∧ i = .int .i64 k ∧ x = .int .u64 (leNum s a k)) (fun _ i => z - (intOf i).toNat)
  case atStart => exact ⟨0, by omega, rfl, rfl⟩
  case round =>
    obtain ⟨k, hk, rfl, rfl⟩ := hrel
    by_cases hlt : k < z
    · have HS : Hid (bits .or .u64 (leNum s a k : Int) (IntKind.u64.wrap (IntKind.u64.wrap ((s[a + k].toNat : Nat) : Int) * 2 ^ (8 * k))) = (leNum s a (k + 1) : Int)) := by
        show _ = _
        rw [or_u64 _ _ _ (leNum_lt s a k) s[a + k].toNat_lt (by omega), leNum, getD_at s (a + k) (by omega)]
      go_wp2
      go_round
      case rel => exact ⟨k + 1, by omega, by go_num, by rw [← HS.out]⟩
      case measure => simp [intOf]; omega
    · obtain rfl : z = k := by omega
      go_wp2
      go_ret2
      exact ⟨rfl, rfl⟩

set_option maxHeartbeats 400000 in
theorem get_range (s : ByteArray) (a z : Int) (w : World) (h : (z < 1 ∨ 8 < z) ∨ a < 0) :
    Calls Tryd.prog 11 #[.string s, .int .i64 a, .int .i64 z] w fun e w' => e = .returned (.tuple #[.int .i64 0, .int .i64 1]) ∧ w = w' := by
  by_cases hz : z < 1 ∨ 8 < z
  · go_enter Tryd.func11, Tryd.ntmps11
    go_wp2_with (go_at_call 22; refine (valid_no _ _ (by assumption)).mono ?_; rintro e w' ⟨rfl, rfl⟩)
    go_ret2
    exact ⟨rfl, rfl⟩
  · have ha : a < 0 := by omega
    clear h
    go_enter Tryd.func11, Tryd.ntmps11
    go_wp2_with (go_at_call 22; refine (valid_yes _ _ (by omega) (by omega)).mono ?_; rintro e w' ⟨rfl, rfl⟩)
    go_ret2
    exact ⟨rfl, rfl⟩
set_option maxHeartbeats 400000 in
theorem get_short (s : ByteArray) (a z : Int) (w : World) (hs : s.size ≤ maxLen) (h1 : 1 ≤ z) (h8 : z ≤ 8) (ha : 0 ≤ a) (h : s.size < a + z) :
    Calls Tryd.prog 11 #[.string s, .int .i64 a, .int .i64 z] w fun e w' => e = .returned (.tuple #[.int .i64 0, .int .i64 5]) ∧ w = w' := by
  unfold maxLen at hs
  have h' : ¬ a ≤ (s.size : Int) - z := by omega
  go_enter Tryd.func11, Tryd.ntmps11
  go_wp2_with (go_at_call 22; refine (valid_yes _ _ (by omega) (by omega)).mono ?_; rintro e w' ⟨rfl, rfl⟩)
  go_ret2
  exact ⟨rfl, rfl⟩
set_option maxHeartbeats 400000 in
theorem rget_range (s : ByteArray) (a z : Int) (w : World) (h : (z < 1 ∨ 8 < z) ∨ a < 0) :
    Calls Tryd.prog 12 #[.string s, .int .i64 a, .int .i64 z] w fun e w' => e = .returned (.tuple #[.int .i64 0, .int .i64 1]) ∧ w = w' := by
  by_cases h1 : z < 1
  · clear h
    have d1 : decide (z < 1) = true := by simpa using h1
    go_enter Tryd.func12, Tryd.ntmps12
    go_wp2
    go_ret2
    exact ⟨rfl, rfl⟩
  · have d1 : decide (z < 1) = false := by simpa using h1
    by_cases h8 : 8 < z
    · clear h
      have d8 : decide (8 < z) = true := by simpa using h8
      go_enter Tryd.func12, Tryd.ntmps12
      go_wp2
      go_ret2
      exact ⟨rfl, rfl⟩
    · have d8 : decide (8 < z) = false := by simpa using h8
      have ha : a < 0 := by omega
      have da : decide (a < 0) = true := by simpa using ha
      clear h
      go_enter Tryd.func12, Tryd.ntmps12
      go_wp2
      go_ret2
      exact ⟨rfl, rfl⟩
set_option maxHeartbeats 400000 in
theorem rget_short (s : ByteArray) (a z : Int) (w : World) (_hs : s.size ≤ maxLen) (h1 : 1 ≤ z) (h8 : z ≤ 8) (ha : 0 ≤ a) (h : s.size < a + z) :
    Calls Tryd.prog 12 #[.string s, .int .i64 a, .int .i64 z] w fun e w' => e = .returned (.tuple #[.int .i64 0, .int .i64 5]) ∧ w = w' := by
  unfold maxLen at _hs
  have d0 : decide (a < 0) = false := by simp; omega
  have d1 : decide (z < 1) = false := by simp; omega
  have d2 : decide (8 < z) = false := by simp; omega
  by_cases hl : (s.size : Int) < a
  · have d3 : decide ((s.size : Int) < a) = true := by simpa using hl
    go_enter Tryd.func12, Tryd.ntmps12
    go_wp2
    go_ret2
    exact ⟨rfl, rfl⟩
  · have d3 : decide ((s.size : Int) < a) = false := by simpa using hl
    have d4 : decide ((s.size : Int) - a < z) = true := by simp; omega
    go_enter Tryd.func12, Tryd.ntmps12
    go_wp2
    go_ret2
    exact ⟨rfl, rfl⟩

/-- what Get answers, for every text and all numbers -/
def getR (s : ByteArray) (a z : Int) : Int × Int :=
  if (z < 1 ∨ 8 < z) ∨ a < 0 then (0, 1) else if (s.size : Int) < a + z then (0, 5) else (wrap64 (leNum s a.toNat z.toNat), 0)
theorem get_any (s : ByteArray) (a z : Int) (w : World) (hs : s.size ≤ maxLen) :
    Calls Tryd.prog 11 #[.string s, .int .i64 a, .int .i64 z] w fun e w' => e = .returned (.tuple #[.int .i64 (getR s a z).1, .int .i64 (getR s a z).2]) ∧ w = w' := by
  unfold getR
  by_cases h : (z < 1 ∨ 8 < z) ∨ a < 0
  · simp only [if_pos h]; exact get_range s a z w h
  · by_cases h' : (s.size : Int) < a + z
    · simp only [if_neg h, if_pos h']; exact get_short s a z w hs (by omega) (by omega) (by omega) h'
    · simp only [if_neg h, if_neg h']
      obtain ⟨x, rfl⟩ := Int.eq_ofNat_of_zero_le (show 0 ≤ a by omega)
      obtain ⟨y, rfl⟩ := Int.eq_ofNat_of_zero_le (show 0 ≤ z by omega)
      exact get_nat s x y w hs (by omega) (by omega) (by omega)
theorem rget_any (s : ByteArray) (a z : Int) (w : World) (hs : s.size ≤ maxLen) :
    Calls Tryd.prog 12 #[.string s, .int .i64 a, .int .i64 z] w fun e w' => e = .returned (.tuple #[.int .i64 (getR s a z).1, .int .i64 (getR s a z).2]) ∧ w = w' := by
  unfold getR
  by_cases h : (z < 1 ∨ 8 < z) ∨ a < 0
  · simp only [if_pos h]; exact rget_range s a z w h
  · by_cases h' : (s.size : Int) < a + z
    · simp only [if_neg h, if_pos h']; exact rget_short s a z w hs (by omega) (by omega) (by omega) h'
    · simp only [if_neg h, if_neg h']
      obtain ⟨x, rfl⟩ := Int.eq_ofNat_of_zero_le (show 0 ≤ a by omega)
      obtain ⟨y, rfl⟩ := Int.eq_ofNat_of_zero_le (show 0 ≤ z by omega)
      exact rget_nat s x y w hs (by omega) (by omega) (by omega)
/-- what Put answers -/
def putR (s : ByteArray) (n z : Int) : ByteArray := if z < 1 ∨ 8 < z then s else s ++ leS n z.toNat
theorem put_any (s : ByteArray) (n z : Int) (w : World) (hs : s.size ≤ 4611686018427387904) :
    Calls Tryd.prog 9 #[.string s, .int .i64 n, .int .i64 z] w fun e w' => e = .returned (.string (putR s n z)) ∧ Below w.heap.size w w' := by
  unfold putR
  by_cases h : z < 1 ∨ 8 < z
  · simp only [if_pos h]; exact put_no s n z w h
  · simp only [if_neg h]; exact put_ok s n z w hs (by omega) (by omega)
theorem rput_any (s : ByteArray) (n z : Int) (w : World) (hs : s.size ≤ 4611686018427387904) :
    Calls Tryd.prog 10 #[.string s, .int .i64 n, .int .i64 z] w fun e w' => e = .returned (.string (putR s n z)) ∧ Below w.heap.size w w' := by
  unfold putR
  by_cases h : z < 1 ∨ 8 < z
  · simp only [if_pos h]; exact rput_no s n z w h
  · simp only [if_neg h]; exact rput_ok s n z w hs (by omega) (by omega)
end Go.Proofs.YtccepdbglgpniaaDoor
