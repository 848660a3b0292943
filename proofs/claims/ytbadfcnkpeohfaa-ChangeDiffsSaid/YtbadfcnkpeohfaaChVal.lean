/- changes as values, and how cells, changes and pages are compared -/
import Derived.Test.YtbadfcnkpeohfaaMem
namespace Go.Proofs.Ytbadfcnkpeohfaa
open Go.RowKit

structure Chg where
  page : Int
  slot : Int
  before : Cl
  after : Cl
def chCells (c : Chg) : List Value := [.int .i64 c.page, .int .i64 c.slot, .bool c.before.set, .string c.before.data, .bool c.after.set, .string c.after.data]
/-- a change that a value of the program can be -/
structure GoodCh (c : Chg) : Prop where
  page : (Lit.int .i64 c.page).wf = true
  slot : (Lit.int .i64 c.slot).wf = true
  before : c.before.data.size ≤ maxLen
  after : c.after.data.size ≤ maxLen
def chOkB (c : Chg) : Bool := decide (0 ≤ c.page) && (decide (c.page < 64) && (decide (0 ≤ c.slot) && (decide (c.slot < 16) && (cellOkB c.before && cellOkB c.after))))
def chNil : Chg := ⟨0, 0, emptyCl, emptyCl⟩
def invR (c : Chg) : Chg := ⟨c.page, c.slot, c.after, c.before⟩
noncomputable def joinR (a b : Chg) : Chg × Int :=
  if (chOkB a && chOkB b) = false then (chNil, 22) else if sameV (a.page, a.slot) (b.page, b.slot) = false then (chNil, 6) else if sameV b.before a.after = false then (chNil, 20) else (⟨a.page, a.slot, a.before, b.after⟩, 0)
noncomputable def applyR (p : Pg) (c : Chg) : Pg × Int :=
  if chOkB c = false then (newPg 0, 22) else if sameV c.page p.id = false then (newPg 0, 6) else if sameV c.before (p.cells.getD c.slot.toNat emptyCl) = false then (newPg 0, 20) else (⟨p.id, p.lsn, p.cells.set c.slot.toNat c.after⟩, 0)
theorem cells_length (c : Chg) : (chCells c).length = 6 := rfl
theorem oneCell_ch (c : Chg) : ((chCells c).toArray).all (·.oneCell') = true := by kernel_rfl
theorem oneCell_cl (c : Cl) : ((clCells c).toArray).all (·.oneCell') = true := by kernel_rfl
theorem info_ch : (Try.prog.info? 29).map (·.size) = some 6 := by kernel_rfl
theorem under_ch : ∃ fs, Try.prog.underlying 29 = some (.struct fs) := ⟨_, Try.underlying29⟩
theorem pgCells_len {p : Pg} (h : p.cells.length = 16) : (pgCells p).length = 34 := by rw [pgCells_length, h]
theorem info_pgc {p : Pg} (h : p.cells.length = 16) : (Try.prog.info? 27).map (·.size) = some (pgCells p).length := by rw [pgCells_len h]; exact info_page
theorem cellOk_small {c : Cl} (h : cellOkB c = true) : c.data.size ≤ 12 := by unfold cellOkB at h; simp at h; exact h.1
theorem small_le {n : Nat} (h : n ≤ 13) : n ≤ maxLen := by unfold maxLen; omega
theorem wf_of {n : Int} (h0 : -9223372036854775808 ≤ n) (h1 : n ≤ 9223372036854775807) : (Lit.int .i64 n).wf = true := by
  simp [Lit.wf, IntKind.min, IntKind.max, IntKind.bits, IntKind.signed]; omega
theorem wf_bd {n : Int} (h : (Lit.int .i64 n).wf = true) : -9223372036854775808 ≤ n ∧ n ≤ 9223372036854775807 := by
  simpa [Lit.wf, IntKind.min, IntKind.max, IntKind.bits, IntKind.signed] using h
theorem chOk_parts {c : Chg} (h : chOkB c = true) : 0 ≤ c.page ∧ c.page < 64 ∧ 0 ≤ c.slot ∧ c.slot < 16 ∧ cellOkB c.before = true ∧ cellOkB c.after = true := by
  unfold chOkB at h
  simp at h
  exact h
theorem chOk_of {c : Chg} (h0 : 0 ≤ c.page) (h1 : c.page < 64) (h2 : 0 ≤ c.slot) (h3 : c.slot < 16) (h4 : cellOkB c.before = true) (h5 : cellOkB c.after = true) : chOkB c = true := by
  unfold chOkB
  simp [h0, h1, h2, h3, h4, h5]
theorem chOk_good {c : Chg} (h : chOkB c = true) : GoodCh c := by
  obtain ⟨h0, h1, h2, h3, h4, h5⟩ := chOk_parts h
  exact ⟨wf_of (by omega) (by omega), wf_of (by omega) (by omega), small_le (by have := cellOk_small h4; omega), small_le (by have := cellOk_small h5; omega)⟩
theorem inv_ok (c : Chg) : chOkB (invR c) = chOkB c := by
  unfold chOkB invR
  cases cellOkB c.before <;> cases cellOkB c.after <;> simp
theorem inv_good {c : Chg} (h : GoodCh c) : GoodCh (invR c) := ⟨h.page, h.slot, h.after, h.before⟩
theorem alloc_ch (w : World) : Sem.run Try.prog (Instr.alloc 29 true (.tuple #[])) w = .ok (.pointer (some ⟨w.heap.size, 0, none⟩)) (w.alloc (.cells (chCells chNil).toArray 29)) := by kernel_rfl
theorem alloc_cl (w : World) : Sem.run Try.prog (Instr.alloc 24 true (.tuple #[])) w = .ok (.pointer (some ⟨w.heap.size, 0, none⟩)) (w.alloc (.cells (clCells emptyCl).toArray 24)) := by kernel_rfl
theorem info_cl : (Try.prog.info? 24).map (·.size) = some 2 := by kernel_rfl
theorem all_one {cs : List Value} (h : cs.toArray.all (·.oneCell') = true) : ∀ u ∈ cs, u.oneCell' = true := by
  rw [List.all_toArray, List.all_eq_true] at h
  exact h
/-! equality -/
def chLits (c : Chg) : List Lit := [.int .i64 c.page, .int .i64 c.slot, .bool c.before.set, .string c.before.data.data.toList, .bool c.after.set, .string c.after.data.data.toList]
theorem clLits_iff (a b : Cl) : clLits a = clLits b ↔ a = b := by
  constructor
  · intro h
    simp only [clLits, List.cons.injEq, Lit.bool.injEq, Lit.string.injEq, and_true] at h
    obtain ⟨s, d⟩ := a
    obtain ⟨s', d'⟩ := b
    simp only at h
    rw [h.1, str_eq h.2]
  · rintro rfl; rfl
theorem chLits_iff (a b : Chg) : chLits a = chLits b ↔ a = b := by
  constructor
  · intro h
    simp only [chLits, List.cons.injEq, Lit.bool.injEq, Lit.string.injEq, Lit.int.injEq, true_and, and_true] at h
    obtain ⟨h1, h2, h3, h4, h5, h6⟩ := h
    obtain ⟨p, s, ⟨b1, b2⟩, ⟨a1, a2⟩⟩ := a
    obtain ⟨p', s', ⟨b1', b2'⟩, ⟨a1', a2'⟩⟩ := b
    simp only at h1 h2 h3 h4 h5 h6
    rw [h1, h2, h3, str_eq h4, h5, str_eq h6]
  · rintro rfl; rfl
theorem cellsOf_ch : Try.prog.cellsOf 29 = 6 := by kernel_rfl
theorem lits_ch (d : Nat) (c : Chg) (h : GoodCh c) : Try.prog.keyLits (d + 3) 29 (chCells c) = some (chLits c) := by
  rw [show d + 3 = (d + 2) + 1 from rfl]
  unfold Program.keyLits
  rw [Try.underlying29]
  simp only
  rw [if_pos ⟨by rw [cellsOf_ch]; rfl, by kernel_rfl⟩]
  have h1 := lits_int (d + 1) c.page h.page
  have h2 := lits_int (d + 1) c.slot h.slot
  have h3 := lits_cell d c.before h.before
  have h4 := lits_cell d c.after h.after
  simp only [clCells] at h3 h4
  unfold chCells
  simp only [List.mapM_cons, List.mapM_nil, cellsOf_int, cellsOf_cell, List.drop_zero, List.take_succ_cons, List.take_zero, List.drop_succ_cons, h1, h2, h3, h4]
  simp [chLits, clLits, List.flatten, pure, bind]
theorem ch_formed (c : Chg) : (Value.agg (chCells c).toArray).formed Try.prog 29 = true := by
  unfold Value.formed
  rw [Try.underlying29]
  simp only
  rw [List.size_toArray, cells_length, cellsOf_ch]
  rfl
theorem cl_formed (c : Cl) : (Value.agg (clCells c).toArray).formed Try.prog 24 = true := by
  unfold Value.formed
  rw [Try.underlying24]
  simp only
  rw [List.size_toArray, cellsOf_cell]
  rfl
theorem equal_ch (a b : Chg) (ha : GoodCh a) (hb : GoodCh b) (w : World) : Sem.run Try.prog (Op.equal 29 (.agg (chCells a).toArray) (.agg (chCells b).toArray)) w = .ok (sameV a b) w :=
  equal_lits 29 a b _ _ _ _ (by kernel_rfl) (ch_formed a) (ch_formed b) (lits_ch 1 a ha) (lits_ch 1 b hb) (chLits_iff a b) w
theorem equal_cl (a b : Cl) (ha : a.data.size ≤ maxLen) (hb : b.data.size ≤ maxLen) (w : World) : Sem.run Try.prog (Op.equal 24 (.agg (clCells a).toArray) (.agg (clCells b).toArray)) w = .ok (sameV a b) w :=
  equal_lits 24 a b _ _ _ _ (by kernel_rfl) (cl_formed a) (cl_formed b) (lits_cell 2 a ha) (lits_cell 2 b hb) (clLits_iff a b) w
theorem equal_pg (a b : Pg) (ha : Good a) (hb : Good b) (w : World) : Sem.run Try.prog (Op.equal 27 (.agg (pgCells a).toArray) (.agg (pgCells b).toArray)) w = .ok (sameV a b) w :=
  equal_lits 27 a b _ _ _ _ (by kernel_rfl) (page_formed a ha) (page_formed b hb) (lits_page 0 a ha) (lits_page 0 b hb) (pgLits_inj a b) w
theorem cells_formed (l : List Cl) (h : l.length = 16) : (Value.agg (rowCells l).toArray).formed Try.prog 25 = true := by
  unfold Value.formed
  rw [under_cells16]
  simp only
  rw [List.size_toArray, rowCells_length, h, cellsOf_cells]
  rfl
theorem equal_cells (a b : List Cl) (ha : a.length = 16) (hb : b.length = 16) (da : ∀ c ∈ a, c.data.size ≤ maxLen) (db : ∀ c ∈ b, c.data.size ≤ maxLen) (w : World) : Sem.run Try.prog (Op.equal 25 (.agg (rowCells a).toArray) (.agg (rowCells b).toArray)) w = .ok (sameV a b) w :=
  equal_lits 25 a b _ _ _ _ (by kernel_rfl) (cells_formed a ha) (cells_formed b hb) (lits_cells 1 a ha da) (lits_cells 1 b hb db) ⟨clLits_inj a b, by rintro rfl; rfl⟩ w
/-- where the cells of a page lie -/
theorem getD_eq {l : List Cl} {k : Nat} (h : k < l.length) : l.getD k emptyCl = l[k] := by rw [List.getD_eq_getElem?_getD, List.getElem?_eq_getElem h]; rfl
theorem good_cell {p : Pg} (h : Good p) (k : Nat) : (p.cells.getD k emptyCl).data.size ≤ maxLen := by
  by_cases hk : k < p.cells.length
  · rw [getD_eq hk]; exact h.data _ (List.getElem_mem hk)
  · rw [List.getD_eq_getElem?_getD, List.getElem?_eq_none (by omega)]; decide
theorem good_set {p : Pg} (h : Good p) (k : Nat) {c : Cl} (hc : c.data.size ≤ maxLen) : Good ⟨p.id, p.lsn, p.cells.set k c⟩ :=
  ⟨by rw [List.length_set]; exact h.len, h.id, h.lsn, fun x hx => by
    rcases List.mem_or_eq_of_mem_set hx with hx | rfl
    · exact h.data x hx
    · exact hc⟩
theorem newPg_good (id : Int) (h : (Lit.int .i64 id).wf = true) : Good (newPg id) := ⟨rfl, h, by show (Lit.int .i64 0).wf = true; decide, newPg_small id⟩
theorem apply_good {p : Pg} {c : Chg} (hp : Good p) (hc : GoodCh c) : Good (applyR p c).1 := by
  unfold applyR
  split
  · exact newPg_good 0 (by decide)
  · split
    · exact newPg_good 0 (by decide)
    · split
      · exact newPg_good 0 (by decide)
      · exact good_set hp _ hc.after
theorem nil_good : GoodCh chNil := ⟨by decide, by decide, by decide, by decide⟩
theorem join_good {a b : Chg} (ha : GoodCh a) (hb : GoodCh b) : GoodCh (joinR a b).1 := by
  unfold joinR
  split
  · exact nil_good
  · split
    · exact nil_good
    · split
      · exact nil_good
      · exact ⟨ha.page, ha.slot, ha.before, hb.after⟩
end Go.Proofs.Ytbadfcnkpeohfaa
