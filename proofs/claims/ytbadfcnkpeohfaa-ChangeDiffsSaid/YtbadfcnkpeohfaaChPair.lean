/- pairs of changes, and pages and pairs in slices -/
import Derived.Test.YtbadfcnkpeohfaaChRow
namespace Go.Proofs.Ytbadfcnkpeohfaa
open Go.RowKit

def prCells (u : Chg × Chg) : List Value := chCells u.1 ++ chCells u.2
theorem info_pr : (Try.prog.info? 36).map (·.size) = some 12 := by kernel_rfl
theorem oneCell_pr (u : Chg × Chg) : ((prCells u).toArray).all (·.oneCell') = true := by kernel_rfl
theorem alloc_pr (w : World) : Sem.run Try.prog (Instr.alloc 36 true (.tuple #[])) w = .ok (.pointer (some ⟨w.heap.size, 0, none⟩)) (w.alloc (.cells (prCells (chNil, chNil)).toArray 36)) := by kernel_rfl
theorem under_pr : Try.prog.underlying 36 = some (.array 2 29) := by kernel_rfl
theorem under_prs : Try.prog.underlying 38 = some (.slice 36) := by kernel_rfl
theorem under_pgs : Try.prog.underlying 45 = some (.slice 27) := by kernel_rfl
theorem build_pr (a b : Chg) (W : World) : Sem.run Try.prog (Instr.build 36 #[(0, .agg (chCells a).toArray), (1, .agg (chCells b).toArray)]) W = .ok (.agg (prCells (a, b)).toArray) W := by kernel_rfl
theorem elem_pr : ElemIs 36 12 128 := ⟨⟨_, .agg (prCells (chNil, chNil)).toArray, rfl, rfl, rfl, rfl, rfl⟩, by decide, by decide, by decide⟩
theorem elem_pg : ElemIs 27 34 400 := ⟨⟨_, .agg (pgCells (newPg 0)).toArray, rfl, rfl, rfl, rfl, rfl⟩, by decide, by decide, by decide⟩
theorem pr_first (u : Chg × Chg) (j : Nat) (v : Value) (h : (chCells u.1)[j]? = some v) : (prCells u)[0 + j]? = some v := by
  rw [Nat.zero_add]
  unfold prCells
  rw [List.getElem?_append_left (List.getElem?_eq_some_iff.1 h).1]
  exact h
theorem pr_second (u : Chg × Chg) (j : Nat) (v : Value) (h : (chCells u.2)[j]? = some v) : (prCells u)[6 + j]? = some v := by
  unfold prCells
  rw [List.getElem?_append_right (by rw [cells_length]; omega), cells_length, Nat.add_sub_cancel_left]
  exact h
theorem pr_after (u : Chg × Chg) (j : Nat) (v : Value) (h : (clCells u.1.after)[j]? = some v) : (prCells u)[4 + j]? = some v := by
  have := pr_first u (4 + j) v (ch_after u.1 j v h)
  rw [Nat.zero_add] at this
  exact this
theorem validCell_cl (c : Cl) (w : World) (hs : c.data.size ≤ maxLen) : Calls Try.prog 19 #[.agg (clCells c).toArray] w fun e w' => e = .returned (.bool (cellOkB c)) ∧ Below w.heap.size w w' := chCell_any c.set c.data w hs
theorem rvalidCell_cl (c : Cl) (w : World) (hs : c.data.size ≤ maxLen) : Calls Try.prog 20 #[.agg (clCells c).toArray] w fun e w' => e = .returned (.bool (cellOkB c)) ∧ Below w.heap.size w w' := rvalidCell c.set c.data w hs
theorem neq_ch (a : Chg) (h : GoodCh a) (W : World) : Sem.run Try.prog (binOp .neq 29 (.agg (chCells a).toArray) (.agg (chCells a).toArray)) W = .ok (.bool false) W := by
  have := run_neq (equal_ch a a h h) W
  rw [sameV_self] at this
  exact this
theorem neq_pg (p : Pg) (h : Good p) (W : World) : Sem.run Try.prog (binOp .neq 27 (.agg (pgCells p).toArray) (.agg (pgCells p).toArray)) W = .ok (.bool false) W := by
  have := run_neq (equal_pg p p h h) W
  rw [sameV_self] at this
  exact this
end Go.Proofs.Ytbadfcnkpeohfaa
