/- the world of a law's walk: what came in is as it was, the choices lie at a block, the table lies -/
import Derived.Test.YtoceglomogcgcaaDoorLwBase
namespace Go.Proofs.YtoceglomogcgcaaDoor
open Go.RowKit

structure Env (w : World) (C : Nat) (W : World) : Prop where
  old : Below w.heap.size w W
  codes : CodesOk W C
  le : w.heap.size ≤ C
  tab : TabAt W
theorem Env.besides {w W W' : World} {C : Nat} (h : Env w C W) (ht : TabAt w) (hb : Besides C W W') (hc : CodesOk W' C) : Env w C W' :=
  ⟨h.old.trans (hb.below h.le h.old.size), hc, h.le, ht.below (h.old.trans (hb.below h.le h.old.size))⟩
theorem Env.calls {w W W' : World} {C : Nat} (h : Env w C W) (hb : Below W.heap.size W W') : Env w C W' :=
  ⟨h.old.trans (hb.mono h.old.size), h.codes.below hb h.codes.lt, h.le, h.tab.below hb⟩
theorem PgIn.calls {W W' : World} {B : Nat} {p : Pg} (h : PgIn W B p) (hb : Below W.heap.size W W') : PgIn W' B p := (hb.block _ h.lt).trans h
/-- a new page in memory, and its value stored -/
def putPg (W : World) (p : Pg) : World := (W.alloc (.cells (pgCells (newPg 0)).toArray 27)).setRow W.heap.size (pgCells p).toArray
theorem putPg_at (W : World) (p : Pg) : PgIn (putPg W p) W.heap.size p := setRow_heap _ _ _ _ _ _ (heap_alloc_last W _)
theorem putPg_below (W : World) (p : Pg) : Below W.heap.size W (putPg W p) := below_setRow ((Below.refl _ _).alloc (Nat.le_refl _) _) (Nat.le_refl _) _
/-- two of them -/
def putPg2 (W : World) (p q : Pg) : World := (((W.alloc (.cells (pgCells (newPg 0)).toArray 27)).alloc (.cells (pgCells (newPg 0)).toArray 27)).setRow W.heap.size (pgCells p).toArray).setRow (W.heap.size + 1) (pgCells q).toArray
theorem two_first (W : World) : ((W.alloc (.cells (pgCells (newPg 0)).toArray 27)).alloc (.cells (pgCells (newPg 0)).toArray 27)).heap[W.heap.size]? = some (.cells (pgCells (newPg 0)).toArray 27 (0, 0)) :=
  (Below.heap_alloc _ _ _ (by simp)).trans (heap_alloc_last W _)
theorem two_second (W : World) (p : Pg) : (((W.alloc (.cells (pgCells (newPg 0)).toArray 27)).alloc (.cells (pgCells (newPg 0)).toArray 27)).setRow W.heap.size (pgCells p).toArray).heap[W.heap.size + 1]? = some (.cells (pgCells (newPg 0)).toArray 27 (0, 0)) := by
  rw [setRow_other _ _ _ _ (by omega)]
  have := heap_alloc_last (W.alloc (.cells (pgCells (newPg 0)).toArray 27)) (.cells (pgCells (newPg 0)).toArray 27)
  rw [World.size_alloc] at this
  exact this
theorem two_second' (W : World) (p : Pg) : (((W.alloc (.cells (pgCells (newPg 0)).toArray 27)).alloc (.cells (pgCells (newPg 0)).toArray 27)).setRow W.heap.size (pgCells p).toArray).heap[(W.alloc (.cells (pgCells (newPg 0)).toArray 27)).heap.size]? = some (.cells (pgCells (newPg 0)).toArray 27 (0, 0)) := by
  rw [World.size_alloc]
  exact two_second W p
theorem putPg2_at (W : World) (p q : Pg) : PgIn (putPg2 W p q) W.heap.size p ∧ PgIn (putPg2 W p q) (W.heap.size + 1) q :=
  ⟨(setRow_other _ _ _ _ (by omega)).trans (setRow_heap _ _ _ _ _ _ (two_first W)), setRow_heap _ _ _ _ _ _ (two_second W p)⟩
theorem putPg2_below (W : World) (p q : Pg) : Below W.heap.size W (putPg2 W p q) :=
  below_setRow (below_setRow (((Below.refl _ _).alloc (Nat.le_refl _) _).alloc (by simp) _) (Nat.le_refl _) _) (by omega) _
theorem start_env {w w1 w2 : World} (hb : Below w.heap.size w w1) (hb2 : Below w1.heap.size w1 w2) (hc2 : CodesOk w2 w1.heap.size) (ht : TabAt w) : Env w w1.heap.size w2 :=
  ⟨hb.trans (hb2.mono hb.size), hc2, hb.size, ht.below (hb.trans (hb2.mono hb.size))⟩
/-- the three operations on whole pages, the operation written out: where another one stands they fail at once -/
theorem wpList_alloc_pg {ops : Array Oper} {rest : List Oper} {a : Act} {w : World} {Q : Exit → Act → World → Prop} {d : Option Tmp} {t : TypeId} {pos : String} {aft : Array Edge}
    (h : wpList Tryd.prog ops Q rest (a.put d (.pointer (some ⟨w.heap.size, 0, none⟩))) (w.alloc (.cells (pgCells (newPg 0)).toArray 27))) :
    wpList Tryd.prog ops Q ({ dst := d, op := .alloc 27, type := t, pos := pos, after := aft, guard := none } :: rest) a w := wpList_alloc_page rfl rfl h
theorem wpList_store_pg (x : Operand) {y : Operand} {ops : Array Oper} {rest : List Oper} {a : Act} {w : World} {Q : Exit → Act → World → Prop} {t : TypeId} {pos : String} {aft : Array Edge}
    (b : Nat) (p q : Pg) (hx : a.eval x = .pointer (some ⟨b, 0, none⟩)) (hy : a.eval y = .agg (pgCells p).toArray) (hg : PgIn w b q) (hp : p.cells.length = 16) (hq : q.cells.length = 16)
    (h : wpList Tryd.prog ops Q rest a (w.setRow b (pgCells p).toArray)) :
    wpList Tryd.prog ops Q ({ dst := none, op := .store 27 x y, type := t, pos := pos, after := aft, guard := none } :: rest) a w :=
  wpList_store_row rfl 27 x y rfl b (pgCells p).toArray hx hy 27 (pgCells q).toArray hg (by rw [size_pg p hp]; exact info_page) (by rw [size_pg p hp, size_pg q hq]) (oneCell_pg p) h
theorem wpList_load_pg (x : Operand) {ops : Array Oper} {rest : List Oper} {a : Act} {w : World} {Q : Exit → Act → World → Prop} {d : Option Tmp} {t : TypeId} {pos : String} {aft : Array Edge}
    (b : Nat) (p : Pg) (hx : a.eval x = .pointer (some ⟨b, 0, none⟩)) (hg : PgIn w b p) (hp : p.cells.length = 16)
    (h : wpList Tryd.prog ops Q rest (a.put d (.agg (pgCells p).toArray)) w) :
    wpList Tryd.prog ops Q ({ dst := d, op := .load 27 x, type := t, pos := pos, after := aft, guard := none } :: rest) a w := by
  obtain ⟨fs, hu⟩ := under_page
  exact wpList_load_row rfl 27 x rfl b hx 27 (pgCells p).toArray (0, 0) _ hg hu rfl (by rw [size_pg p hp]; exact info_page) h
end Go.Proofs.YtoceglomogcgcaaDoor
