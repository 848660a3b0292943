/- pages as values -/
import Derived.Test.YtbadfcnkpeohfaaNum
import Derived.Deep.MidRow
import Derived.Deep.OwnRows
import Derived.Laws.CopyOwn
namespace Go.Proofs.Ytbadfcnkpeohfaa
open Go.RowKit

structure Cl where
  set : Bool
  data : ByteArray
structure Pg where
  id : Int
  lsn : Int
  cells : List Cl
def clCells (c : Cl) : List Value := [.bool c.set, .string c.data]
def clV (c : Cl) : Value := .agg (clCells c).toArray
def rowCells (l : List Cl) : List Value := l.flatMap clCells
def pgCells (p : Pg) : List Value := .int .i64 p.id :: .int .i64 p.lsn :: rowCells p.cells
def pgV (p : Pg) : Value := .agg (pgCells p).toArray

theorem rowCells_get : ∀ (l : List Cl) (k : Nat) (h : k < l.length), (rowCells l)[2 * k]? = some (.bool l[k].set) ∧ (rowCells l)[2 * k + 1]? = some (.string l[k].data)
  | [], k, h => by simp at h
  | c :: l, 0, _ => ⟨rfl, rfl⟩
  | c :: l, k + 1, h => by
    have := rowCells_get l k (by simpa using h)
    exact this
theorem pgCells_get (p : Pg) (k : Nat) (h : k < p.cells.length) : (pgCells p)[2 + 2 * k]? = some (.bool p.cells[k].set) ∧ (pgCells p)[2 + 2 * k + 1]? = some (.string p.cells[k].data) := by
  have := rowCells_get p.cells k h
  rw [show 2 + 2 * k = (2 * k + 1) + 1 from by omega]
  exact this
theorem rowCells_length (l : List Cl) : (rowCells l).length = 2 * l.length := by
  induction l with
  | nil => rfl
  | cons c l ih => show (clCells c ++ rowCells l).length = _; rw [List.length_append, ih, List.length_cons]; simp only [clCells, List.length_cons, List.length_nil]; omega
theorem pgCells_length (p : Pg) : (pgCells p).length = 2 + 2 * p.cells.length := by
  show (rowCells p.cells).length + 1 + 1 = _
  rw [rowCells_length]; omega

def cellOkB (c : Cl) : Bool := decide (c.data.size ≤ 12) && (c.set || decide (c.data.size = 0))

def numB (p : Pg) : Bool := decide (0 ≤ p.id) && (decide (p.id < 64) && (decide (0 ≤ p.lsn) && decide (p.lsn ≤ 1099511627776)))
def cellB (lsn : Int) (c : Cl) : Bool := cellOkB c && !(decide (lsn = 0) && c.set)
def cellsB (p : Pg) : Bool := p.cells.all (cellB p.lsn)
/-- a page lies at block B, from its first cell on -/
def PgAt (w : World) (B : Nat) (p : Pg) : Prop :=
  w.cell? ⟨B, 0, none⟩ = some (.int .i64 p.id) ∧ w.cell? ⟨B, 1, none⟩ = some (.int .i64 p.lsn) ∧
  ∀ k (h : k < p.cells.length), w.cell? ⟨B, 2 + k * 2, none⟩ = some (.bool p.cells[k].set) ∧ w.cell? ⟨B, 2 + k * 2 + 1, none⟩ = some (.string p.cells[k].data)
theorem pgAt_alloc (w : World) (p : Pg) (t : TypeId) : PgAt (w.alloc (.cells (pgCells p).toArray t)) w.heap.size p := by
  refine ⟨by rw [World.cell?_alloc_new]; rfl, by rw [World.cell?_alloc_new]; rfl, fun k h => ?_⟩
  rw [World.cell?_alloc_new, World.cell?_alloc_new]
  have := pgCells_get p k h
  rw [show 2 + 2 * k = 2 + k * 2 from by omega] at this
  simpa using this
theorem PgAt.below {w w' : World} {B B' : Nat} {p : Pg} (h : PgAt w B p) (hb : Below B' w w') (hB : B < B') : PgAt w' B p := by
  obtain ⟨h0, h1, h2⟩ := h
  refine ⟨by rw [hb.cell (p := ⟨B, 0, none⟩) hB]; exact h0, by rw [hb.cell (p := ⟨B, 1, none⟩) hB]; exact h1, fun k hk => ?_⟩
  rw [hb.cell (p := ⟨B, 2 + k * 2, none⟩) hB, hb.cell (p := ⟨B, 2 + k * 2 + 1, none⟩) hB]
  exact h2 k hk

theorem all_false {α : Type} {l : List α} {f : α → Bool} {c : α} (h : c ∈ l) (hf : f c = false) : l.all f = false := by
  rw [List.all_eq_false]; exact ⟨c, h, by rw [hf]; decide⟩
theorem ret_bool {a b : Bool} (h : a = b) : Ending.returned (.bool a) = .returned (.bool b) := by rw [h]
/-- what the reference's check of a page answers -/
def checkR (p : Pg) : Int := if numB p = false then 1 else if cellsB p = false then 22 else 0
theorem info_page : (Try.prog.info? 27).map (·.size) = some 34 := by kernel_rfl
theorem under_page : ∃ fs, Try.prog.underlying 27 = some (.struct fs) := ⟨_, Try.underlying27⟩
theorem heap_alloc_last (w : World) (o : Obj) : (w.alloc o).heap[w.heap.size]? = some o := by
  show (w.heap.push o)[w.heap.size]? = some o
  simp
def emptyCl : Cl := ⟨false, ⟨#[]⟩⟩
def newPg (id : Int) : Pg := ⟨id, 0, List.replicate 16 emptyCl⟩
theorem newPg_cells (id : Int) : (pgCells (newPg id)).toArray = #[.int .i64 id, .int .i64 0, .bool false, .string ⟨#[]⟩, .bool false, .string ⟨#[]⟩, .bool false, .string ⟨#[]⟩, .bool false, .string ⟨#[]⟩, .bool false, .string ⟨#[]⟩, .bool false, .string ⟨#[]⟩, .bool false, .string ⟨#[]⟩, .bool false, .string ⟨#[]⟩, .bool false, .string ⟨#[]⟩, .bool false, .string ⟨#[]⟩, .bool false, .string ⟨#[]⟩, .bool false, .string ⟨#[]⟩, .bool false, .string ⟨#[]⟩, .bool false, .string ⟨#[]⟩, .bool false, .string ⟨#[]⟩, .bool false, .string ⟨#[]⟩] := rfl

theorem alloc_page (w : World) : Sem.run Try.prog (Instr.alloc 27 true (.tuple #[])) w = .ok (.pointer (some ⟨w.heap.size, 0, none⟩)) (w.alloc (.cells (pgCells (newPg 0)).toArray 27)) := by kernel_rfl
theorem build_new (id : Int) (w : World) : Sem.run Try.prog (Instr.build 27 #[(0, .int .i64 id)]) w = .ok (.agg (pgCells (newPg id)).toArray) w := by kernel_rfl
theorem oneCell_new (id : Int) : ((pgCells (newPg id)).toArray).all (·.oneCell') = true := by kernel_rfl
theorem size_new (id : Int) : ((pgCells (newPg id)).toArray).size = 34 := by kernel_rfl

/-- a new page in memory, without its cells written out -/
theorem wpList_alloc_page {ops : Array Oper} {rest : List Oper} {o : Oper} {a : Act} {w : World} {Q : Exit → Act → World → Prop} (hg : o.guard = none) (ho : o.op = .alloc 27)
    (h : wpList Try.prog ops Q rest (a.put o.dst (.pointer (some ⟨w.heap.size, 0, none⟩))) (w.alloc (.cells (pgCells (newPg 0)).toArray 27))) : wpList Try.prog ops Q (o :: rest) a w :=
  wpList_plain hg fun K hK => by
    unfold Oper.wp execOp
    simp only [ho, Sem.run_bind, alloc_page w, Result.andThen_ok, Sem.run_pure]
    exact hK _ _ h
theorem wpList_build_new {ops : Array Oper} {rest : List Oper} {o : Oper} {a : Act} {w : World} {Q : Exit → Act → World → Prop} (hg : o.guard = none) (x : Operand) (id : Int) (ho : o.op = .build 27 #[(0, x)]) (hx : a.eval x = .int .i64 id)
    (h : wpList Try.prog ops Q rest (a.put o.dst (.agg (pgCells (newPg id)).toArray)) w) : wpList Try.prog ops Q (o :: rest) a w :=
  wpList_plain hg fun K hK => by
    unfold Oper.wp execOp
    have hb := build_new id w
    rw [← hx] at hb
    simp only [ho, List.map_toArray, List.map_cons, List.map_nil, Sem.run_bind, hb, Result.andThen_ok, Sem.run_pure]
    exact hK _ _ h

end Go.Proofs.Ytbadfcnkpeohfaa
