/- operations on 32 bits, in the words of the walk -/
import Derived.Test.YtoceglomogcgcaaDoorRows
import Derived.Test.YtoceglomogcgcaaDoorCrc
import Derived.WalkKit
import Derived.WalkSpells
import Derived.WalkLawsBesides
import Derived.Lib.Hide
namespace Go.Proofs.YtoceglomogcgcaaDoor
open Go.RowKit

theorem bx (a b : BitVec 32) : bits .xor .u32 (a.toNat : Int) (b.toNat : Int) = ((a ^^^ b).toNat : Int) := by
  rw [u32_xor_nat _ _ a.isLt b.isLt, BitVec.toNat_xor]
theorem ba (a : BitVec 32) : bits .and .u32 (a.toNat : Int) 15 = (Crc.low4 a : Int) := by
  have := u32_and_nat a.toNat 15 a.isLt (by decide)
  rw [show ((15 : Nat) : Int) = 15 from rfl] at this
  rw [this]; unfold Crc.low4; rw [BitVec.toNat_and]; rfl
theorem bs (a : BitVec 32) : (a.toNat : Int) / 16 = ((a >>> 4).toNat : Int) := by
  rw [BitVec.toNat_ushiftRight, Nat.shiftRight_eq_div_pow]; simp
theorem bb (b : UInt8) : (b.toNat : Int) % 4294967296 = ((Crc.by32 b).toNat : Int) := by
  unfold Crc.by32
  rw [BitVec.toNat_ofNat]
  omega
theorem bn (a : BitVec 32) : bits .xor .u32 IntKind.u32.max (a.toNat : Int) = ((~~~ a).toNat : Int) := by
  have e : IntKind.u32.max = ((0xFFFFFFFF#32).toNat : Int) := by decide
  rw [e, bx, show (0xFFFFFFFF#32) = BitVec.allOnes 32 from by decide, BitVec.allOnes_xor]
theorem ret_u32 {a b : Int} (h : a = b) : Ending.returned (.int .u32 a) = .returned (.int .u32 b) := by rw [h]
/-- one bit, as the reference takes it -/
theorem bit_facts (X : BitVec 32) : ∃ (L : Nat) (Y Z : BitVec 32), bits .and .u32 (X.toNat : Int) 1 = (L : Int) ∧ (X.toNat : Int) / 2 = (Y.toNat : Int) ∧ bits .xor .u32 (Y.toNat : Int) 2197175160 = (Z.toNat : Int) ∧
    ((L = 1 ∧ Crc.bit1 X = Z) ∨ (L = 0 ∧ Crc.bit1 X = Y)) := by
  refine ⟨X.toNat % 2, X >>> 1, (X >>> 1) ^^^ Crc.poly, ?_, ?_, ?_, ?_⟩
  · have := u32_and_nat X.toNat 1 X.isLt (by decide)
    rw [show ((1 : Nat) : Int) = 1 from rfl] at this
    rw [this, Nat.and_one_is_mod]
  · rw [BitVec.toNat_ushiftRight, Nat.shiftRight_eq_div_pow]; simp
  · have := bx (X >>> 1) Crc.poly
    rw [show ((Crc.poly.toNat : Nat) : Int) = 2197175160 from by decide] at this
    exact this
  · have hb : X.getLsbD 0 = decide (X.toNat % 2 = 1) := by
      rw [BitVec.getLsbD, Nat.testBit_zero]
    unfold Crc.bit1
    rw [hb]
    by_cases h : X.toNat % 2 = 1
    · left; rw [decide_eq_true h]; exact ⟨h, rfl⟩
    · right; rw [decide_eq_false h]; exact ⟨by omega, by simp⟩
end Go.Proofs.YtoceglomogcgcaaDoor
