/- the walks of the two checksums: both are CRC-32C of the bytes -/
import Derived.Test.YtccepdbglgpniaaDoorRows
import Derived.Test.YtccepdbglgpniaaDoorCrc
import Derived.WalkKit
import Derived.WalkSpells
import Derived.WalkLawsBesides
import Derived.Lib.Hide
namespace Go.Proofs.YtccepdbglgpniaaDoor
open Go.RowKit

/-- the table of the half bytes lies where the package variable is -/
def TabAt (w : World) : Prop := ∀ i, i < 16 → w.cell? ⟨0, i, none⟩ = some (.int .u32 ((Crc.tabv i).toNat : Int))

theorem bx (a b : BitVec 32) : bits .xor .u32 (a.toNat : Int) (b.toNat : Int) = ((a ^^^ b).toNat : Int) := by
  rw [u32_xor_nat _ _ a.isLt b.isLt, BitVec.toNat_xor]
theorem ba (a : BitVec 32) : bits .and .u32 (a.toNat : Int) 15 = (Crc.low4 a : Int) := by
  have := u32_and_nat a.toNat 15 a.isLt (by decide)
  rw [show ((15 : Nat) : Int) = 15 from rfl] at this
  rw [this]; unfold Crc.low4; rw [BitVec.toNat_and]; rfl
theorem bs (a : BitVec 32) : (a.toNat : Int) / 16 = ((a >>> 4).toNat : Int) := by
  rw [BitVec.toNat_ushiftRight, Nat.shiftRight_eq_div_pow]; simp
theorem bb (b : UInt8) : (b.toNat : Int) % 4294967296 = ((Crc.by32 b).toNat : Int) := by
  unfold Crc.by32
  rw [BitVec.toNat_ofNat]
  omega

theorem bn (a : BitVec 32) : bits .xor .u32 IntKind.u32.max (a.toNat : Int) = ((~~~ a).toNat : Int) := by
  have e : IntKind.u32.max = ((0xFFFFFFFF#32).toNat : Int) := by decide
  rw [e, bx, show (0xFFFFFFFF#32) = BitVec.allOnes 32 from by decide, BitVec.allOnes_xor]
theorem ret_u32 {a b : Int} (h : a = b) : Ending.returned (.int .u32 a) = .returned (.int .u32 b) := by rw [h]

/-- what one half byte does, said of plain numbers -/
theorem half_facts (w : World) (ht : TabAt w) (X : BitVec 32) : ∃ (Y T : BitVec 32) (L : Nat), (X.toNat : Int) / 16 = (Y.toNat : Int) ∧ bits .and .u32 (X.toNat : Int) 15 = (L : Int) ∧ L < 16 ∧
    w.cell? ⟨0, L, none⟩ = some (.int .u32 (T.toNat : Int)) ∧ bits .xor .u32 (Y.toNat : Int) (T.toNat : Int) = ((Crc.half X).toNat : Int) :=
  ⟨X >>> 4, Crc.tabv (Crc.low4 X), Crc.low4 X, bs X, ba X, Crc.low4_lt X, ht _ (Crc.low4_lt X), bx _ _⟩

set_option maxHeartbeats 400000 in
theorem sum_any (s : ByteArray) (w : World) (hs : s.size ≤ maxLen) (ht : TabAt w) :
    Calls Tryd.prog 19 #[.string s] w fun e w' => e = .returned (.int .u32 ((Crc.sum s.data.toList).toNat : Int)) ∧ w = w' := by
  unfold maxLen at hs
  have HT := Lib.hid ht
  clear ht
  go_enter Tryd.func19, Tryd.ntmps19
  go_wp2
  go_loop [3, 7] (fun c i => ∃ k : Nat, k ≤ s.size ∧ i = .int .i64 k ∧ c = .int .u32 ((Crc.fold 0xFFFFFFFF#32 (s.data.toList.take k)).toNat : Int)) (fun _ i => s.size - (intOf i).toNat)
  case atStart => exact ⟨0, Nat.zero_le _, rfl, rfl⟩
  case round =>
    obtain ⟨k, hk, rfl, rfl⟩ := hrel
    by_cases hlt : k < s.size
    · have HF : Hid (Crc.fold 0xFFFFFFFF#32 (s.data.toList.take (k + 1)) = Crc.half (Crc.half (Crc.fold 0xFFFFFFFF#32 (s.data.toList.take k) ^^^ Crc.by32 s[k]))) := by
        show _ = _
        rw [Crc.take_snoc s k hlt, Crc.fold_snoc, ← Crc.byte1_half]; rfl
      generalize Crc.fold 0xFFFFFFFF#32 (s.data.toList.take k) = F at HF ⊢
      have e1 := bb s[k]
      have e2 := bx F (Crc.by32 s[k])
      obtain ⟨Y0, T0, L0, y0, a0, l0, c0, x0⟩ := half_facts w HT.out (F ^^^ Crc.by32 s[k])
      obtain ⟨Y1, T1, L1, y1, a1, l1, c1, x1⟩ := half_facts w HT.out (Crc.half (F ^^^ Crc.by32 s[k]))
      generalize Crc.half (Crc.half (F ^^^ Crc.by32 s[k])) = X2 at *
      generalize Crc.half (F ^^^ Crc.by32 s[k]) = X1 at *
      generalize F ^^^ Crc.by32 s[k] = X0 at *
      generalize Crc.by32 s[k] = B at *
      go_wp2
      go_round
      case rel => exact ⟨k + 1, by omega, by go_num, by rw [HF.out]⟩
      case measure => simp [intOf]; omega
    · have hkk : s.data.toList.take k = s.data.toList := List.take_of_length_le (by simp; omega)
      have HK := Lib.hid hkk
      clear hkk
      go_wp2
      go_ret
      exact ⟨ret_u32 (by rw [bn, HK.out]; rfl), rfl⟩

/-- one bit, as the reference takes it -/
theorem bit_facts (X : BitVec 32) : ∃ (L : Nat) (Y Z : BitVec 32), bits .and .u32 (X.toNat : Int) 1 = (L : Int) ∧ (X.toNat : Int) / 2 = (Y.toNat : Int) ∧ bits .xor .u32 (Y.toNat : Int) 2197175160 = (Z.toNat : Int) ∧
    ((L = 1 ∧ Crc.bit1 X = Z) ∨ (L = 0 ∧ Crc.bit1 X = Y)) := by
  refine ⟨X.toNat % 2, X >>> 1, (X >>> 1) ^^^ Crc.poly, ?_, ?_, ?_, ?_⟩
  · have := u32_and_nat X.toNat 1 X.isLt (by decide)
    rw [show ((1 : Nat) : Int) = 1 from rfl] at this
    rw [this, Nat.and_one_is_mod]
  · rw [BitVec.toNat_ushiftRight, Nat.shiftRight_eq_div_pow]; simp
  · have := bx (X >>> 1) Crc.poly
    rw [show ((Crc.poly.toNat : Nat) : Int) = 2197175160 from by decide] at this
    exact this
  · have hb : X.getLsbD 0 = decide (X.toNat % 2 = 1) := by
      rw [BitVec.getLsbD, Nat.testBit_zero]
    unfold Crc.bit1
    rw [hb]
    by_cases h : X.toNat % 2 = 1
    · left; rw [decide_eq_true h]; exact ⟨h, rfl⟩
    · right; rw [decide_eq_false h]; exact ⟨by omega, by simp⟩

set_option maxHeartbeats 400000 in
theorem rsum_any (s : ByteArray) (w : World) (hs : s.size ≤ maxLen) :
    Calls Tryd.prog 20 #[.string s] w fun e w' => e = .returned (.int .u32 ((Crc.sum s.data.toList).toNat : Int)) ∧ w = w' := by
  unfold maxLen at hs
  go_enter Tryd.func20, Tryd.ntmps20
  go_wp2
  go_loop [3, 4, 5] (fun c i _ => ∃ k : Nat, k ≤ s.size ∧ i = .int .i64 k ∧ c = .int .u32 ((Crc.fold 0xFFFFFFFF#32 (s.data.toList.take k)).toNat : Int)) (fun _ i _ => s.size - (intOf i).toNat)
  case atStart => exact ⟨0, Nat.zero_le _, rfl, rfl⟩
  case round =>
    obtain ⟨k, hk, rfl, rfl⟩ := hrel
    by_cases hlt : k < s.size
    · have HF : Hid (Crc.fold 0xFFFFFFFF#32 (s.data.toList.take (k + 1)) = Crc.bitN 8 (Crc.fold 0xFFFFFFFF#32 (s.data.toList.take k) ^^^ Crc.by32 s[k])) := by
        show _ = _
        rw [Crc.take_snoc s k hlt, Crc.fold_snoc]; rfl
      generalize Crc.fold 0xFFFFFFFF#32 (s.data.toList.take k) = F at HF ⊢
      have e1 := bb s[k]
      have e2 := bx F (Crc.by32 s[k])
      generalize F ^^^ Crc.by32 s[k] = X0 at *
      generalize Crc.by32 s[k] = B at *
      go_wp2
      go_loop [3, 5] (fun c j => ∃ m : Nat, m ≤ 8 ∧ j = .int .i64 m ∧ c = .int .u32 ((Crc.bitN m X0).toNat : Int)) (fun _ j => 8 - (intOf j).toNat)
      case atStart => exact ⟨0, Nat.zero_le _, rfl, rfl⟩
      case round =>
        obtain ⟨m, hm, rfl, rfl⟩ := hrel
        by_cases hl8 : m < 8
        · have HB : Hid (Crc.bitN (m + 1) X0 = Crc.bit1 (Crc.bitN m X0)) := by
            show _ = _
            rw [Crc.bitN_add]; rfl
          obtain ⟨L, Y, Z, a0, y0, z0, h⟩ := bit_facts (Crc.bitN m X0)
          generalize Crc.bitN m X0 = X at *
          rcases h with ⟨rfl, hz⟩ | ⟨rfl, hz⟩
          · have HZ := Lib.hid hz
            clear hz
            go_wp2
            go_round
            case rel => exact ⟨m + 1, by omega, by go_num, by rw [HB.out, HZ.out]⟩
            case measure => simp [intOf]; omega
          · have HZ := Lib.hid hz
            clear hz
            go_wp2
            go_round
            case rel => exact ⟨m + 1, by omega, by go_num, by rw [HB.out, HZ.out]⟩
            case measure => simp [intOf]; omega
        · obtain rfl : m = 8 := by omega
          go_wp2
          go_round
          case rel => exact ⟨k + 1, by omega, by go_num, by rw [HF.out]⟩
          case measure => simp [intOf]; omega
    · have hkk : s.data.toList.take k = s.data.toList := List.take_of_length_le (by simp; omega)
      have HK := Lib.hid hkk
      clear hkk
      go_wp2
      go_ret
      exact ⟨ret_u32 (by rw [bn, HK.out]; rfl), rfl⟩
end Go.Proofs.YtccepdbglgpniaaDoor
