/- the walk of the checksum of the program: CRC-32C of the bytes -/
import Derived.Test.YtoceglomogcgcaaDoorBits
import Derived.Below
namespace Go.Proofs.YtoceglomogcgcaaDoor
open Go.RowKit


/-- the table of the half bytes lies where the package variable is -/
def TabAt (w : World) : Prop := ∀ i, i < 16 → w.cell? ⟨0, i, none⟩ = some (.int .u32 ((Crc.tabv i).toNat : Int))
/-- what one half byte does, said of plain numbers -/
theorem half_facts (w : World) (ht : TabAt w) (X : BitVec 32) : ∃ (Y T : BitVec 32) (L : Nat), (X.toNat : Int) / 16 = (Y.toNat : Int) ∧ bits .and .u32 (X.toNat : Int) 15 = (L : Int) ∧ L < 16 ∧
    w.cell? ⟨0, L, none⟩ = some (.int .u32 (T.toNat : Int)) ∧ bits .xor .u32 (Y.toNat : Int) (T.toNat : Int) = ((Crc.half X).toNat : Int) :=
  ⟨X >>> 4, Crc.tabv (Crc.low4 X), Crc.low4 X, bs X, ba X, Crc.low4_lt X, ht _ (Crc.low4_lt X), bx _ _⟩
set_option maxHeartbeats 400000 in
theorem sum_any (s : ByteArray) (w : World) (hs : s.size ≤ maxLen) (ht : TabAt w) :
    Calls Tryd.prog 38 #[.string s] w fun e w' => e = .returned (.int .u32 ((Crc.sum s.data.toList).toNat : Int)) ∧ w = w' := by
  unfold maxLen at hs
  have HT := Lib.hid ht
  clear ht
  go_enter Tryd.func38, Tryd.ntmps38
  go_wp2
  go_loop [3, 7] (fun c i => ∃ k : Nat, k ≤ s.size ∧ i = .int .i64 k ∧ c = .int .u32 ((Crc.fold 0xFFFFFFFF#32 (s.data.toList.take k)).toNat : Int)) (fun _ i => s.size - (intOf i).toNat)
  case atStart => exact ⟨0, Nat.zero_le _, rfl, rfl⟩
  case round =>
    obtain ⟨k, hk, rfl, rfl⟩ := hrel
    by_cases hlt : k < s.size
    · have HF : Hid (Crc.fold 0xFFFFFFFF#32 (s.data.toList.take (k + 1)) = Crc.half (Crc.half (Crc.fold 0xFFFFFFFF#32 (s.data.toList.take k) ^^^ Crc.by32 s[k]))) := by
        show _ = _
        rw [Crc.take_snoc s k hlt, Crc.fold_snoc, ← Crc.byte1_half]; rfl
      generalize Crc.fold 0xFFFFFFFF#32 (s.data.toList.take k) = F at HF ⊢
      have e1 := bb s[k]
      have e2 := bx F (Crc.by32 s[k])
      obtain ⟨Y0, T0, L0, y0, a0, l0, c0, x0⟩ := half_facts w HT.out (F ^^^ Crc.by32 s[k])
      obtain ⟨Y1, T1, L1, y1, a1, l1, c1, x1⟩ := half_facts w HT.out (Crc.half (F ^^^ Crc.by32 s[k]))
      generalize Crc.half (Crc.half (F ^^^ Crc.by32 s[k])) = X2 at *
      generalize Crc.half (F ^^^ Crc.by32 s[k]) = X1 at *
      generalize F ^^^ Crc.by32 s[k] = X0 at *
      generalize Crc.by32 s[k] = B at *
      go_wp2
      go_round
      case rel => exact ⟨k + 1, by omega, by go_num, by rw [HF.out]⟩
      case measure => simp [intOf]; omega
    · have hkk : s.data.toList.take k = s.data.toList := List.take_of_length_le (by simp; omega)
      have HK := Lib.hid hkk
      clear hkk
      go_wp2
      go_ret
      exact ⟨ret_u32 (by rw [bn, HK.out]; rfl), rfl⟩

theorem TabAt.below {w w' : World} (h : TabAt w) (hb : Below w.heap.size w w') : TabAt w' := by
  intro i hi
  have hc := h i hi
  rw [hb.cell (p := ⟨0, i, none⟩)]
  · exact hc
  · by_cases hlt : 0 < w.heap.size
    · exact hlt
    · exfalso
      have h0 := Array.getElem?_eq_none (xs := w.heap) (i := 0) (Nat.le_of_not_lt hlt)
      simp [World.cell?, h0] at hc
end Go.Proofs.YtoceglomogcgcaaDoor
