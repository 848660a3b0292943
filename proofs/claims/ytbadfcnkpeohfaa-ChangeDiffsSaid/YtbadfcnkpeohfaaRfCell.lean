/- the walk of the reference's check of a cell -/
import Derived.Test.YtbadfcnkpeohfaaPgVal
namespace Go.Proofs.Ytbadfcnkpeohfaa
open Go.RowKit

set_option maxHeartbeats 400000 in
theorem rvalidCell (st : Bool) (d : ByteArray) (w : World) (hs : d.size ≤ maxLen) :
    Calls Try.prog 20 #[.agg #[.bool st, .string d]] w fun e w' => e = .returned (.bool (cellOkB ⟨st, d⟩)) ∧ Below w.heap.size w w' := by
  unfold maxLen at hs
  unfold cellOkB
  simp only
  have fin : Below w.heap.size w (w.alloc (.cells #[.bool st, .string d] 24)) := (Below.refl _ _).alloc (Nat.le_refl _) _
  by_cases h1 : d.size ≤ 12
  · have d1 : decide ((d.size : Int) ≤ 12) = true := by simp; omega
    cases st
    · have hd : d.toList.isEmpty = decide (d.size = 0) := by
        rw [ByteArray.toList_eq, Bool.eq_iff_iff, List.isEmpty_iff, decide_eq_true_iff, ← size_list]
        exact List.length_eq_zero_iff.symm
      cases h0 : decide (d.size = 0)
      · rw [h0] at hd
        go_enter Try.func20, Try.ntmps20
        go_wp2
        go_ret
        exact ⟨by simp [h1], fin⟩
      · rw [h0] at hd
        go_enter Try.func20, Try.ntmps20
        go_wp2
        go_ret
        exact ⟨by simp [h1], fin⟩
    · go_enter Try.func20, Try.ntmps20
      go_wp2
      go_ret
      exact ⟨by simp [h1], fin⟩
  · have d1 : decide ((d.size : Int) ≤ 12) = false := by simp; omega
    go_enter Try.func20, Try.ntmps20
    go_wp2
    go_ret
    exact ⟨by simp [h1], fin⟩
end Go.Proofs.Ytbadfcnkpeohfaa
