/- whether two pages are equal, as the program compares them -/
import Derived.Test.YtbadfcnkpeohfaaDrPage
import Derived.DeepKeys
namespace Go.Proofs.Ytbadfcnkpeohfaa
open Go.RowKit

/-- a page that a value of the program can be -/
structure Good (p : Pg) : Prop where
  len : p.cells.length = 16
  id : (Lit.int .i64 p.id).wf = true
  lsn : (Lit.int .i64 p.lsn).wf = true
  data : ∀ c ∈ p.cells, c.data.size ≤ maxLen
def clLits (c : Cl) : List Lit := [.bool c.set, .string c.data.data.toList]
def pgLits (p : Pg) : List Lit := .int .i64 p.id :: .int .i64 p.lsn :: p.cells.flatMap clLits
theorem clLits_inj : ∀ (a b : List Cl), a.flatMap clLits = b.flatMap clLits → a = b
  | [], [], _ => rfl
  | [], y :: ys, h => by simp [clLits] at h
  | x :: xs, [], h => by simp [clLits] at h
  | x :: xs, y :: ys, h => by
    simp only [List.flatMap_cons, clLits, List.cons_append, List.nil_append, List.cons.injEq, Lit.bool.injEq, Lit.string.injEq] at h
    obtain ⟨h1, h2, h3⟩ := h
    obtain ⟨s, d⟩ := x
    obtain ⟨s', d'⟩ := y
    simp only at h1 h2
    rw [h1, str_eq h2, clLits_inj xs ys h3]
theorem pgLits_inj (p q : Pg) : pgLits p = pgLits q ↔ p = q := by
  constructor
  · intro h
    unfold pgLits at h
    simp only [List.cons.injEq, Lit.int.injEq, true_and] at h
    obtain ⟨i, l, c⟩ := p
    obtain ⟨i', l', c'⟩ := q
    simp only at h
    rw [h.1, h.2.1, clLits_inj _ _ h.2.2]
  · rintro rfl; rfl
theorem mapM_some {α β : Type} (f : α → Option β) (g : α → β) : ∀ (l : List α), (∀ a ∈ l, f a = some (g a)) → l.mapM f = some (l.map g)
  | [], _ => rfl
  | a :: l, h => by
    rw [List.mapM_cons, h a (List.mem_cons_self ..), mapM_some f g l (fun x hx => h x (List.mem_cons_of_mem _ hx))]
    rfl
theorem cellsOf_cell : Try.prog.cellsOf 24 = 2 := by kernel_rfl
theorem cellsOf_cells : Try.prog.cellsOf 25 = 32 := by kernel_rfl
theorem cellsOf_page : Try.prog.cellsOf 27 = 34 := by kernel_rfl
theorem cellsOf_int : Try.prog.cellsOf 3 = 1 := by kernel_rfl
theorem cellsOf_bool : Try.prog.cellsOf 4 = 1 := by kernel_rfl
theorem cellsOf_string : Try.prog.cellsOf 9 = 1 := by kernel_rfl
theorem lits_int (d : Nat) (n : Int) (h : (Lit.int .i64 n).wf = true) : Try.prog.keyLits (d + 1) 3 [.int .i64 n] = some [.int .i64 n] := by
  simp [Program.keyLits, Try.underlying3, h]
theorem lits_bool (d : Nat) (b : Bool) : Try.prog.keyLits (d + 1) 4 [.bool b] = some [.bool b] := by
  simp [Program.keyLits, Try.underlying4]
theorem lits_string (d : Nat) (s : ByteArray) (h : s.size ≤ maxLen) : Try.prog.keyLits (d + 1) 9 [.string s] = some [.string s.data.toList] := by
  simp [Program.keyLits, Try.underlying9, h]
theorem lits_cell (d : Nat) (c : Cl) (h : c.data.size ≤ maxLen) : Try.prog.keyLits (d + 2) 24 (clCells c) = some (clLits c) := by
  unfold clCells
  rw [show d + 2 = (d + 1) + 1 from rfl]
  unfold Program.keyLits
  rw [Try.underlying24]
  simp only
  rw [if_pos ⟨by rw [cellsOf_cell]; rfl, by kernel_rfl⟩]
  have h1 : Try.prog.keyLits (d + 1) 4 [.bool c.set] = some [.bool c.set] := lits_bool d c.set
  have h2 := lits_string d c.data h
  simp only [List.mapM_cons, List.mapM_nil, cellsOf_bool, cellsOf_string, List.drop_zero, List.take_succ_cons, List.take_zero, List.drop_succ_cons, h1, h2]
  rfl
theorem rowCells_take (l : List Cl) (k : Nat) (h : k < l.length) : ((rowCells l).drop (k * 2)).take 2 = clCells l[k] := by
  induction l generalizing k with
  | nil => simp at h
  | cons c l ih =>
    cases k with
    | zero => rfl
    | succ k =>
      have := ih k (by simpa using h)
      rw [List.getElem_cons_succ, ← this]
      show ((Value.bool c.set :: .string c.data :: rowCells l).drop ((k + 1) * 2)).take 2 = _
      rw [show (k + 1) * 2 = k * 2 + 1 + 1 from by omega, List.drop_succ_cons, List.drop_succ_cons]
theorem under_cells16 : Try.prog.underlying 25 = some (.array 16 24) := by kernel_rfl
theorem lits_cells (d : Nat) (l : List Cl) (hl : l.length = 16) (h : ∀ c ∈ l, c.data.size ≤ maxLen) : Try.prog.keyLits (d + 3) 25 (rowCells l) = some (l.flatMap clLits) := by
  rw [show d + 3 = (d + 2) + 1 from rfl]
  unfold Program.keyLits
  rw [under_cells16]
  simp only
  rw [if_pos (by rw [rowCells_length, hl, cellsOf_cells]), cellsOf_cell, mapM_some _ (fun i => clLits (l.getD i emptyCl)) _ (fun i hi => by
    have hi' : i < l.length := by rw [hl]; simpa using hi
    rw [rowCells_take l i hi', lits_cell d _ (h _ (List.getElem_mem _))]
    rw [List.getD_eq_getElem?_getD, List.getElem?_eq_getElem hi']
    rfl)]
  have : (List.range 16).map (fun i => clLits (l.getD i emptyCl)) = l.map clLits := by
    apply List.ext_getElem
    · simp [hl]
    · intro i h1 h2
      have hi' : i < l.length := by simpa using h2
      rw [List.getElem_map, List.getElem_map, List.getElem_range, List.getD_eq_getElem?_getD, List.getElem?_eq_getElem hi']
      rfl
  rw [this]
  simp [List.flatMap]
theorem lits_page (d : Nat) (p : Pg) (h : Good p) : Try.prog.keyLits (d + 4) 27 (pgCells p) = some (pgLits p) := by
  rw [show d + 4 = (d + 3) + 1 from rfl]
  unfold Program.keyLits
  rw [Try.underlying27]
  simp only
  rw [if_pos ⟨by rw [cellsOf_page, pgCells_length, h.len], by kernel_rfl⟩]
  have h1 := lits_int (d + 2) p.id h.id
  have h2 := lits_int (d + 2) p.lsn h.lsn
  have h3 := lits_cells d p.cells h.len h.data
  have e1 : (rowCells p.cells).take 32 = rowCells p.cells := List.take_of_length_le (by rw [rowCells_length, h.len]; omega)
  unfold pgCells
  simp only [List.mapM_cons, List.mapM_nil, cellsOf_int, cellsOf_cells, List.drop_zero, List.take_succ_cons, List.take_zero, List.drop_succ_cons, h1, h2, e1, h3]
  simp [pgLits, List.flatten, pure, bind]
theorem page_formed (p : Pg) (h : Good p) : (pgV p).formed Try.prog 27 = true := by
  unfold pgV Value.formed
  rw [Try.underlying27]
  simp only
  rw [List.size_toArray, pgCells_length, h.len, cellsOf_page]
  rfl
/-- two pages are the same -/
noncomputable def samePg (p q : Pg) : Bool := @decide (p = q) (Classical.propDecidable _)
theorem samePg_iff {p q : Pg} : samePg p q = true ↔ p = q := by unfold samePg; exact @decide_eq_true_iff (p = q) (Classical.propDecidable _)
theorem page_equal (p q : Pg) (hp : Good p) (hq : Good q) (w : World) : Sem.run Try.prog (Op.equal 27 (pgV p) (pgV q)) w = .ok (samePg p q) w := by
  obtain ⟨r, hr, hiff⟩ := run_equalIn_deep (P := Try.prog) 9996 4 27 (by kernel_rfl) w 4 4 (pgV p) (pgV q) (pgLits p) (pgLits q) (page_formed p hp) (page_formed q hq) (lits_page 0 p hp) (lits_page 0 q hq)
  have e : samePg p q = r := by
    rw [Bool.eq_iff_iff, hiff, samePg_iff, pgLits_inj]
  rw [e]
  exact hr
theorem run_page_eql (p q : Pg) (hp : Good p) (hq : Good q) (w : World) : Sem.run Try.prog (binOp .eql 27 (.agg (pgCells p).toArray) (.agg (pgCells q).toArray)) w = .ok (.bool (samePg p q)) w := by
  have h := page_equal p q hp hq w
  unfold pgV at h
  simp only [binOp, Sem.run_bind, h, Result.andThen_ok, Sem.run_pure]
theorem run_page_neq (p q : Pg) (hp : Good p) (hq : Good q) (w : World) : Sem.run Try.prog (binOp .neq 27 (.agg (pgCells p).toArray) (.agg (pgCells q).toArray)) w = .ok (.bool (!samePg p q)) w := by
  have h := page_equal p q hp hq w
  unfold pgV at h
  simp only [binOp, Sem.run_bind, h, Result.andThen_ok, Sem.run_pure]
end Go.Proofs.Ytbadfcnkpeohfaa
