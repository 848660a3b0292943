/- the changes from one page to another one, as a list; rows of cells as values -/
import Derived.Test.YtbadfcnkpeohfaaChPair
import Derived.Test.YtbadfcnkpeohfaaPgArr
namespace Go.Proofs.Ytbadfcnkpeohfaa
open Go.RowKit

/-- the changes that make cells a those of b, from slot s on -/
noncomputable def diffL (id : Int) : Nat → List Cl → List Cl → List Chg
  | s, a :: l, b :: m => (if sameV a b = true then [] else [⟨id, (s : Int), a, b⟩]) ++ diffL id (s + 1) l m
  | _, _, _ => []
noncomputable def diffR (p q : Pg) : List Chg × Int :=
  if sameV p.id q.id = false then ([], 6) else if (decide (0 ≤ p.id) && decide (p.id < 64)) = false then ([], 1) else if (p.cells.all cellOkB && q.cells.all cellOkB) = false then ([], 22) else (diffL p.id 0 p.cells q.cells, 0)
theorem diffL_same (id : Int) : ∀ (s : Nat) (a : List Cl), diffL id s a a = []
  | _, [] => rfl
  | s, x :: a => by
    show (if sameV x x = true then [] else _) ++ diffL id (s + 1) a a = []
    rw [sameV_self, if_pos rfl, diffL_same id (s + 1) a]
    rfl
theorem diffL_append (id : Int) : ∀ (s : Nat) (a b a' b' : List Cl), a.length = b.length → diffL id s (a ++ a') (b ++ b') = diffL id s a b ++ diffL id (s + a.length) a' b'
  | s, [], [], a', b', _ => rfl
  | _, [], _ :: _, _, _, h => by simp at h
  | _, _ :: _, [], _, _, h => by simp at h
  | s, x :: a, y :: b, a', b', h => by
    show _ ++ diffL id (s + 1) (a ++ a') (b ++ b') = (_ ++ diffL id (s + 1) a b) ++ _
    rw [diffL_append id (s + 1) a b a' b' (by simpa using h), List.append_assoc, List.length_cons]
    congr 3
    omega
/-- one place more -/
theorem diffL_succ (id : Int) {a b : List Cl} (hab : a.length = b.length) (k : Nat) (hk : k < a.length) {x y : Cl} (hx : a[k]? = some x) (hy : b[k]? = some y) :
    diffL id 0 (a.take (k + 1)) (b.take (k + 1)) = diffL id 0 (a.take k) (b.take k) ++ (if sameV x y = true then [] else [⟨id, (k : Int), x, y⟩]) := by
  rw [List.take_add_one, List.take_add_one, hx, hy, Option.toList_some, Option.toList_some, diffL_append id 0 _ _ _ _ (by rw [List.length_take, List.length_take, hab])]
  congr 1
  rw [Nat.zero_add, List.length_take, Nat.min_eq_left (Nat.le_of_lt hk)]
  show (if sameV x y = true then [] else _) ++ [] = _
  rw [List.append_nil]
theorem diffL_len (id : Int) : ∀ (s : Nat) (a b : List Cl), (diffL id s a b).length ≤ a.length
  | _, [], _ => by simp [diffL]
  | _, _ :: _, [] => by simp [diffL]
  | s, x :: a, y :: b => by
    have := diffL_len id (s + 1) a b
    show ((if sameV x y = true then [] else _) ++ diffL id (s + 1) a b).length ≤ _
    rw [List.length_append, List.length_cons]
    by_cases h : sameV x y = true
    · rw [if_pos h]; simp; omega
    · rw [if_neg h]; simp; omega
theorem diffL_flat (id : Int) {a b : List Cl} (hab : a.length = b.length) (k : Nat) (hk : k < a.length) {x y : Cl} (hx : a[k]? = some x) (hy : b[k]? = some y) (hn : sameV x y = false) :
    (diffL id 0 (a.take (k + 1)) (b.take (k + 1))).flatMap chCells = (diffL id 0 (a.take k) (b.take k)).flatMap chCells ++ ([chCells ⟨id, (k : Int), x, y⟩] : List (List Value)).flatMap (fun z => z) ∧ (diffL id 0 (a.take (k + 1)) (b.take (k + 1))).length = (diffL id 0 (a.take k) (b.take k)).length + 1 := by
  rw [diffL_succ id hab k hk hx hy, if_neg (by rw [hn]; decide)]
  exact ⟨by rw [List.flatMap_append]; simp, by rw [List.length_append]; rfl⟩
/-- rows of cells -/
theorem oneCell_row (l : List Cl) : ((rowCells l).toArray).all (·.oneCell') = true := by
  rw [List.all_toArray, List.all_eq_true]
  intro v hv
  unfold rowCells at hv
  rw [List.mem_flatMap] at hv
  obtain ⟨c, _, hc⟩ := hv
  simp [clCells] at hc
  rcases hc with rfl | rfl <;> rfl
theorem info_row {l : List Cl} (h : l.length = 16) : (Try.prog.info? 25).map (·.size) = some (rowCells l).length := by rw [rowCells_length, h]; exact info_cells
theorem row_part (l : List Cl) (k : Nat) {c : Cl} (hc : l[k]? = some c) : (rowCells l).toArray.extract (k * 2) (k * 2 + 2) = #[.bool c.set, .string c.data] := by
  obtain ⟨h, rfl⟩ := List.getElem?_eq_some_iff.1 hc
  exact rowCells_part l k h
theorem wpList_index_row (x i : Operand) {ops : Array Oper} {rest : List Oper} {a : Act} {w : World} {Q : Exit → Act → World → Prop} {d : Option Tmp} {ty : TypeId} {pos : String} {aft : Array Edge}
    (l : List Cl) (k : Nat) (c : Cl) (hk : k < 16) (hc : l[k]? = some c) (hx : a.eval x = .agg (rowCells l).toArray) (hi : a.eval i = .int .i64 (k : Int))
    (h : wpList Try.prog ops Q rest (a.put d (.agg (clCells c).toArray)) w) :
    wpList Try.prog ops Q ({ dst := d, op := .index 25 x i, type := ty, pos := pos, after := aft, guard := none } :: rest) a w :=
  wpList_index_cells rfl x i rfl (rowCells l).toArray hx k hi hk c.set c.data (row_part l k hc) h
theorem page_row (p : Pg) : ∀ j v, (rowCells p.cells)[j]? = some v → (pgCells p)[2 + j]? = some v := fun j v hv => by
  show (_ :: _ :: rowCells p.cells)[2 + j]? = some v
  rw [show 2 + j = j + 1 + 1 from by omega, List.getElem?_cons_succ, List.getElem?_cons_succ, hv]
theorem row_mid (l : List Cl) (k : Nat) {c : Cl} (hc : l[k]? = some c) : ∀ j v, (clCells c)[j]? = some v → (rowCells l)[k * 2 + j]? = some v := fun j v hv => by
  obtain ⟨h, rfl⟩ := List.getElem?_eq_some_iff.1 hc
  have := rowCells_get l k h
  match j, hv with
  | 0, hv => rw [show k * 2 + 0 = 2 * k from by omega]; exact this.1.trans hv
  | 1, hv => rw [show k * 2 + 1 = 2 * k + 1 from by omega]; exact this.2.trans hv
  | j + 2, hv => simp [clCells] at hv
theorem pg_mid (p : Pg) (k : Nat) {c : Cl} (hc : p.cells[k]? = some c) : ∀ j v, (clCells c)[j]? = some v → (pgCells p)[2 + k * 2 + j]? = some v := fun j v hv => by
  have := page_row p (k * 2 + j) v (row_mid p.cells k hc j v hv)
  rw [← Nat.add_assoc] at this
  exact this
end Go.Proofs.Ytbadfcnkpeohfaa
