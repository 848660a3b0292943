/- the sanity check, and the law CodecNumbers: what the program answers is what the reference answers, for every text and all numbers -/
import Derived.Test.YtccepdbglgpniaaDoorCdSum
import Derived.Test.YtccepdbglgpniaaDoorCdNum
namespace Go.Proofs.YtccepdbglgpniaaDoor
open Go.RowKit

theorem TabAt.below {w w' : World} (h : TabAt w) (hb : Below w.heap.size w w') : TabAt w' := by
  intro i hi
  have hc := h i hi
  rw [hb.cell (p := ⟨0, i, none⟩)]
  · exact hc
  · by_cases hlt : 0 < w.heap.size
    · exact hlt
    · exfalso
      have h0 := Array.getElem?_eq_none (xs := w.heap) (i := 0) (Nat.le_of_not_lt hlt)
      simp [World.cell?, h0] at hc

theorem sum_check : Crc.sum [49, 50, 51, 52, 53, 54, 55, 56, 57] = 0xE3069283#32 := by decide +kernel
theorem put_check : putR ⟨#[]⟩ 513 2 = ⟨#[1, 2]⟩ := by decide +kernel
theorem get_check : getR ⟨#[1, 2]⟩ 0 2 = (513, 0) := by
  unfold getR
  rw [if_neg (by decide), if_neg (by decide)]
  have : leNum ⟨#[1, 2]⟩ (0 : Int).toNat (2 : Int).toNat = 513 := by decide
  rw [this, IntWalk.wrap64_in _ (by omega)]
  rfl

set_option maxHeartbeats 400000 in
theorem awake_any (w : World) (ht : TabAt w) : Calls Tryd.prog 8 #[] w fun e w' => e = .returned (.bool true) ∧ Below w.heap.size w w' := by
  have HT := Lib.hid ht
  clear ht
  go_enter Tryd.func8, Tryd.ntmps8
  go_wp2_with fail
  refine (put_any _ _ _ _ (by decide)).mono ?_
  rintro e w1 ⟨rfl, hb⟩
  have HT1 := Lib.hid (HT.out.below hb)
  rw [put_check]
  go_wp2_with fail
  refine (get_any _ _ _ _ (by decide)).mono ?_
  rintro e w2 ⟨rfl, rfl⟩
  rw [get_check]
  go_wp2_with fail
  refine (sum_any _ _ (by decide) HT1.out).mono ?_
  rintro e w2 ⟨rfl, rfl⟩
  have hsum : ((Crc.sum (⟨#[49, 50, 51, 52, 53, 54, 55, 56, 57]⟩ : ByteArray).data.toList).toNat : Int) = 3808858755 := by
    rw [show (⟨#[49, 50, 51, 52, 53, 54, 55, 56, 57]⟩ : ByteArray).data.toList = [49, 50, 51, 52, 53, 54, 55, 56, 57] from rfl, sum_check]; decide
  rw [hsum]
  go_wp2
  go_ret
  exact ⟨rfl, hb⟩

/-- a cell of a block that was laid last, seen later -/
theorem cell_laid {w wr : World} {C : Array Value} {t : TypeId} (hb : Below (w.heap.size + 1) (w.alloc (.cells C t)) wr) (j : Nat) : wr.cell? ⟨w.heap.size, j, none⟩ = C[j]? := by
  rw [hb.cell (p := ⟨w.heap.size, j, none⟩) (Nat.lt_succ_self _), World.cell?_alloc_new]

set_option maxHeartbeats 1000000 in
theorem numbers_any (s : ByteArray) (n a size k : Int) (w : World) (hs : s.size ≤ maxLen) (ht : TabAt w) (k0 : 0 ≤ k) (k1 : k ≤ 255) :
    Calls Tryd.prog 3 #[.string s, .int .i64 n, .int .i64 a, .int .i64 size, .int .u8 k] w fun e w' => e = .returned (.bool true) ∧ Below w.heap.size w w' := by
  unfold maxLen at hs
  have HT := Lib.hid ht
  clear ht
  by_cases hl : 400 < s.size
  · go_enter Tryd.func3, Tryd.ntmps3
    go_wp2_with (go_at_call 8; refine (awake_any _ HT.out).mono ?_; rintro e w1 ⟨rfl, hb⟩)
    go_ret
    exact ⟨rfl, by assumption⟩
  · go_enter Tryd.func3, Tryd.ntmps3
    go_wp2_with fail
    refine (awake_any _ HT.out).mono ?_
    rintro e w1 ⟨rfl, hb⟩
    go_wp2_with fail
    have hW2 := Below.refl (w1.heap.size + 1) (w1.alloc (.cells #[.int .i64 size, .int .i64 (k % 11), .int .i64 8] 3))
    go_loopw [35] (fun i wr => ∃ j : Nat, j ≤ 3 ∧ i = .int .i64 j ∧ Below (w1.heap.size + 1) (w1.alloc (.cells #[.int .i64 size, .int .i64 (k % 11), .int .i64 8] 3)) wr) (fun i _ => 3 - (intOf i).toNat)
    case atStart => exact ⟨0, by omega, rfl, hW2⟩
    case round =>
      obtain ⟨j, hj, rfl, hbr⟩ := hrel
      by_cases hlt : j < 3
      · obtain ⟨x, hx⟩ : ∃ x : Int, wr.cell? ⟨w1.heap.size, j, none⟩ = some (.int .i64 x) := by
          rw [cell_laid hbr]
          match j, hlt with
          | 0, _ => exact ⟨_, rfl⟩
          | 1, _ => exact ⟨_, rfl⟩
          | 2, _ => exact ⟨_, rfl⟩
        go_wp2_with fail
        refine (put_any _ _ _ _ (by omega)).mono ?_
        rintro e w2 ⟨rfl, hb2⟩
        go_wp2_with fail
        refine (rput_any _ _ _ _ (by omega)).mono ?_
        rintro e w3 ⟨rfl, hb3⟩
        generalize putR s n x = p
        go_wp2_with fail
        have hB : Below (w1.heap.size + 1) (w1.alloc (.cells #[.int .i64 size, .int .i64 (k % 11), .int .i64 8] 3)) (w3.alloc (.cells #[.int .i64 a, .int .i64 0, .int .i64 (k / 11), .int .i64 s.size, .int .i64 (wrap64 (s.size - x))] 3)) := by
          have z1 := hbr.size
          have z2 := hb2.size
          have z3 := hb3.size
          rw [World.size_alloc] at z1
          exact ((hbr.trans (hb2.mono z1)).trans (hb3.mono (Nat.le_trans z1 z2))).alloc (by omega) _
        have hcell : ∀ j2, j2 < 5 → ∃ y : Int, (w3.alloc (.cells #[.int .i64 a, .int .i64 0, .int .i64 (k / 11), .int .i64 s.size, .int .i64 (wrap64 (s.size - x))] 3)).cell? ⟨w3.heap.size, j2, none⟩ = some (.int .i64 y) := by
          intro j2 h2
          rw [World.cell?_alloc_new]
          match j2, h2 with
          | 0, _ => exact ⟨_, rfl⟩
          | 1, _ => exact ⟨_, rfl⟩
          | 2, _ => exact ⟨_, rfl⟩
          | 3, _ => exact ⟨_, rfl⟩
          | 4, _ => exact ⟨_, rfl⟩
        have HC := Lib.hid hcell
        have HB := Lib.hid hB
        clear hcell hB hb2 hb3 hbr hx
        generalize w3.heap.size = b3 at HC ⊢
        generalize w3.alloc (.cells #[.int .i64 a, .int .i64 0, .int .i64 (k / 11), .int .i64 s.size, .int .i64 (wrap64 (s.size - x))] 3) = w4 at HC HB ⊢
        go_loop [60] (fun i => ∃ j2 : Nat, j2 ≤ 5 ∧ i = .int .i64 j2) (fun i => 5 - (intOf i).toNat)
        case atStart => exact ⟨0, by omega, rfl⟩
        case round =>
          obtain ⟨j2, hj2, rfl⟩ := hrel
          by_cases hlt2 : j2 < 5
          · obtain ⟨y, hy⟩ := HC.out j2 hlt2
            go_wp2_with fail
            refine (get_any _ _ _ _ (by unfold maxLen; omega)).mono ?_
            rintro e w5 ⟨rfl, rfl⟩
            go_wp2_with fail
            refine (rget_any _ _ _ _ (by unfold maxLen; omega)).mono ?_
            rintro e w5 ⟨rfl, rfl⟩
            generalize (getR s y x).1 = g1
            generalize (getR s y x).2 = g2
            go_wp2
            go_round
            case rel => exact ⟨j2 + 1, by omega, by go_num⟩
            case measure => simp [intOf]; omega
          · go_wp2
            go_roundw
            case rel => exact ⟨j + 1, by omega, by go_num, HB.out⟩
            case measure => simp [intOf]; omega
      · go_wp2
        go_ret
        exact ⟨rfl, hb.trans ((((Below.refl _ _).alloc (Nat.le_refl _) _).trans (hbr.mono (by omega))).mono hb.size)⟩
end Go.Proofs.YtccepdbglgpniaaDoor
