/- the cells of a page as an array: read whole, and indexed -/
import Derived.Test.YtbadfcnkpeohfaaPgVal
namespace Go.Proofs.Ytbadfcnkpeohfaa
open Go.RowKit

theorem info_cells : (Try.prog.info? 25).map (·.size) = some 32 := by kernel_rfl
theorem under_cells : Try.prog.underlying 25 = some (.array 16 24) := by kernel_rfl
theorem run_index_cells (R : Array Value) (k : Nat) (hk : k < 16) (st : Bool) (d : ByteArray) (he : R.extract (k * 2) (k * 2 + 2) = #[.bool st, .string d]) (w : World) :
    Sem.run Try.prog (Instr.index 25 (.agg R) (.int .i64 (k : Int))) w = .ok (.agg #[.bool st, .string d]) w := by
  obtain ⟨fs, hu⟩ : ∃ fs, Try.prog.underlying 24 = some (.struct fs) := ⟨_, Try.underlying24⟩
  obtain ⟨i, hi, hs⟩ : ∃ i, Try.prog.info? 24 = some i ∧ i.size = 2 := ⟨_, rfl, rfl⟩
  have hkk : (0 : Int) ≤ (k : Int) ∧ (k : Int) < 16 := by omega
  simp [Instr.index, asIntOf, run_underlying under_cells, part, isAgg, run_underlying hu, sizeOf, typeInfo, hi, hs, he]
  intro h; omega
theorem wpList_index_cells {ops : Array Oper} {rest : List Oper} {o : Oper} {a : Act} {w : World} {Q : Exit → Act → World → Prop} (hg : o.guard = none) (x i : Operand) (ho : o.op = .index 25 x i)
    (R : Array Value) (hx : a.eval x = .agg R) (k : Nat) (hi : a.eval i = .int .i64 (k : Int)) (hk : k < 16) (st : Bool) (d : ByteArray) (he : R.extract (k * 2) (k * 2 + 2) = #[.bool st, .string d])
    (h : wpList Try.prog ops Q rest (a.put o.dst (.agg #[.bool st, .string d])) w) : wpList Try.prog ops Q (o :: rest) a w :=
  wpList_plain hg fun K hK => by
    unfold Oper.wp execOp
    simp only [ho, hx, hi, Sem.run_bind, run_index_cells R k hk st d he w, Result.andThen_ok, Sem.run_pure]
    exact hK _ _ h
theorem rowCells_part (l : List Cl) (k : Nat) (h : k < l.length) : (rowCells l).toArray.extract (k * 2) (k * 2 + 2) = #[.bool l[k].set, .string l[k].data] := by
  induction l generalizing k with
  | nil => simp at h
  | cons c l ih =>
    cases k with
    | zero => simp [rowCells, clCells]
    | succ k =>
      have := ih k (by simpa using h)
      simp only [List.extract_toArray, List.getElem_cons_succ] at this ⊢
      rw [← this]
      show (List.extract (.bool c.set :: .string c.data :: rowCells l) _ _).toArray = _
      simp only [List.extract_eq_take_drop, show (k + 1) * 2 = k * 2 + 1 + 1 from by omega, List.drop_succ_cons]
      congr 2
      omega
theorem rangeAt_page {w : World} {B : Nat} {p : Pg} (h : w.heap[B]? = some (.cells (pgCells p).toArray 27 (0, 0))) : w.rangeAt B 2 (rowCells p.cells) := fun j v hv => by
  rw [cell_of_row w B (2 + j) _ _ _ h, List.getElem?_toArray]
  show (_ :: _ :: rowCells p.cells)[2 + j]? = some v
  rw [show 2 + j = j + 1 + 1 from by omega, List.getElem?_cons_succ, List.getElem?_cons_succ, hv]
end Go.Proofs.Ytbadfcnkpeohfaa
