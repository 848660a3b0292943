/- the walk of the checksum of the reference: CRC-32C of the bytes -/
import Derived.Test.YtoceglomogcgcaaDoorBits
namespace Go.Proofs.YtoceglomogcgcaaDoor
open Go.RowKit

set_option maxHeartbeats 400000 in
theorem rsum_any (s : ByteArray) (w : World) (hs : s.size ≤ maxLen) :
    Calls Tryd.prog 42 #[.string s] w fun e w' => e = .returned (.int .u32 ((Crc.sum s.data.toList).toNat : Int)) ∧ w = w' := by
  unfold maxLen at hs
  go_enter Tryd.func42, Tryd.ntmps42
  go_wp2
  go_loop [3, 4, 5] (fun c i _ => ∃ k : Nat, k ≤ s.size ∧ i = .int .i64 k ∧ c = .int .u32 ((Crc.fold 0xFFFFFFFF#32 (s.data.toList.take k)).toNat : Int)) (fun _ i _ => s.size - (intOf i).toNat)
  case atStart => exact ⟨0, Nat.zero_le _, rfl, rfl⟩
  case round =>
    obtain ⟨k, hk, rfl, rfl⟩ := hrel
    by_cases hlt : k < s.size
    · have HF : Hid (Crc.fold 0xFFFFFFFF#32 (s.data.toList.take (k + 1)) = Crc.bitN 8 (Crc.fold 0xFFFFFFFF#32 (s.data.toList.take k) ^^^ Crc.by32 s[k])) := by
        show _ = _
        rw [Crc.take_snoc s k hlt, Crc.fold_snoc]; rfl
      generalize Crc.fold 0xFFFFFFFF#32 (s.data.toList.take k) = F at HF ⊢
      have e1 := bb s[k]
      have e2 := bx F (Crc.by32 s[k])
      generalize F ^^^ Crc.by32 s[k] = X0 at *
      generalize Crc.by32 s[k] = B at *
      go_wp2
      go_loop [3, 5] (fun c j => ∃ m : Nat, m ≤ 8 ∧ j = .int .i64 m ∧ c = .int .u32 ((Crc.bitN m X0).toNat : Int)) (fun _ j => 8 - (intOf j).toNat)
      case atStart => exact ⟨0, Nat.zero_le _, rfl, rfl⟩
      case round =>
        obtain ⟨m, hm, rfl, rfl⟩ := hrel
        by_cases hl8 : m < 8
        · have HB : Hid (Crc.bitN (m + 1) X0 = Crc.bit1 (Crc.bitN m X0)) := by
            show _ = _
            rw [Crc.bitN_add]; rfl
          obtain ⟨L, Y, Z, a0, y0, z0, h⟩ := bit_facts (Crc.bitN m X0)
          generalize Crc.bitN m X0 = X at *
          rcases h with ⟨rfl, hz⟩ | ⟨rfl, hz⟩
          · have HZ := Lib.hid hz
            clear hz
            go_wp2
            go_round
            case rel => exact ⟨m + 1, by omega, by go_num, by rw [HB.out, HZ.out]⟩
            case measure => simp [intOf]; omega
          · have HZ := Lib.hid hz
            clear hz
            go_wp2
            go_round
            case rel => exact ⟨m + 1, by omega, by go_num, by rw [HB.out, HZ.out]⟩
            case measure => simp [intOf]; omega
        · obtain rfl : m = 8 := by omega
          go_wp2
          go_round
          case rel => exact ⟨k + 1, by omega, by go_num, by rw [HF.out]⟩
          case measure => simp [intOf]; omega
    · have hkk : s.data.toList.take k = s.data.toList := List.take_of_length_le (by simp; omega)
      have HK := Lib.hid hkk
      clear hkk
      go_wp2
      go_ret
      exact ⟨ret_u32 (by rw [bn, HK.out]; rfl), rfl⟩
end Go.Proofs.YtoceglomogcgcaaDoor
