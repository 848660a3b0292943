/- the world of a law's walk: what came in is as it was, the choices lie at a block, the table lies -/
import Derived.Test.YtoceglomogcgcaaDoorLwBase
import Derived.Test.YtoceglomogcgcaaDoorRfSeal
import Derived.Deep.WholeRow
namespace Go.Proofs.YtoceglomogcgcaaDoor
open Go.RowKit

structure Env (w : World) (C : Nat) (W : World) : Prop where
  old : Below w.heap.size w W
  codes : CodesOk W C
  le : w.heap.size ≤ C
  tab : TabAt W
theorem Env.besides {w W W' : World} {C : Nat} (h : Env w C W) (ht : TabAt w) (hb : Besides C W W') (hc : CodesOk W' C) : Env w C W' :=
  ⟨h.old.trans (hb.below h.le h.old.size), hc, h.le, ht.below (h.old.trans (hb.below h.le h.old.size))⟩
theorem Env.calls {w W W' : World} {C : Nat} (h : Env w C W) (hb : Below W.heap.size W W') : Env w C W' :=
  ⟨h.old.trans (hb.mono h.old.size), h.codes.below hb h.codes.lt, h.le, h.tab.below hb⟩
/-- other choices, made later, stay while these are asked, as long as they were not asked themselves -/
structure Fresh (w : World) (C D : Nat) (W : World) : Prop where
  env : Env w D W
  lt : C < D
  le : w.heap.size ≤ C
  low : ∃ a len cap, W.cell? ⟨D, 0, none⟩ = some (.slice a len cap) ∧ (0 < len → ∀ b off, a = some ⟨b, off, none⟩ → b < w.heap.size)
theorem Fresh.keep {w W W' : World} {C D : Nat} (h : Fresh w C D W) (ht : TabAt w) (hb : Besides C W W') : Fresh w C D W' := by
  obtain ⟨he, hlt, hle, a, len, cap, hcell, hlow⟩ := h
  have hold : Below w.heap.size w W' := he.old.trans (hb.below hle he.old.size)
  have hne : D ≠ C := by omega
  obtain ⟨a', len', cap', i, h0, h1, h2, h3, h4, h5, h6, h7⟩ := he.codes
  have hcell' : W'.cell? ⟨D, 0, none⟩ = some (.slice a len cap) := by rw [hb.cell (p := ⟨D, 0, none⟩) h0 hne]; exact hcell
  rw [hcell] at h1
  obtain ⟨rfl, rfl, rfl⟩ : a = a' ∧ len = len' ∧ cap = cap' := by simpa using h1
  refine ⟨⟨hold, ⟨a, len, cap, i, Nat.lt_of_lt_of_le h0 hb.size, hcell', by rw [hb.cell (p := ⟨D, 1, none⟩) h0 hne]; exact h2, by rw [hb.frozen (p := ⟨D, 1, none⟩) h0 hne]; exact h3, h4, h5, h6, fun hl => ?_⟩, he.le, ht.below hold⟩, hlt, hle, a, len, cap, hcell', hlow⟩
  obtain ⟨b, off, ha, hbC, hz⟩ := h7 hl
  have hbw := hlow hl b off ha
  refine ⟨b, off, ha, hbC, fun j hj => ?_⟩
  rw [hb.cell (p := ⟨b, off + j, none⟩) (by show b < _; omega) (by show b ≠ C; omega)]
  exact hz j hj
/-- choices made before stay while later ones are asked -/
theorem Env.keep {w W W' : World} {C D : Nat} (h : Env w C W) (ht : TabAt w) (hCD : C < D) (hb : Besides D W W') : Env w C W' := by
  have hold : Below w.heap.size w W' := h.old.trans (hb.below (by have := h.le; omega) h.old.size)
  have hlt := h.codes.lt
  refine ⟨hold, ?_, h.le, ht.below hold⟩
  obtain ⟨a, len, cap, i, hat⟩ := h.codes
  exact ⟨a, len, cap, i, hat.keep hb.size (fun k hk => hb.block k (by omega) (by omega))⟩
theorem row_low {w : World} {x : Option Addr} {len cap : Nat} {zs : List Int} (hr : IsRow .u8 w x len cap zs) (h0 : 0 < len) : ∀ b off, x = some ⟨b, off, none⟩ → b < w.heap.size := by
  intro b off hx
  rcases hr with ⟨_, h, _, _⟩ | ⟨y, hy, _, _, hz, hc, _⟩
  · omega
  · have := World.block_lt_of_cell? w _ (hc 0 (by omega))
    rw [hx] at hy
    cases hy
    simpa [Addr.add] using this
theorem PgIn.calls {W W' : World} {B : Nat} {p : Pg} (h : PgIn W B p) (hb : Below W.heap.size W W') : PgIn W' B p := (hb.block _ h.lt).trans h
/-- a new page in memory, and its value stored -/
def putPg (W : World) (p : Pg) : World := (W.alloc (.cells (pgCells (newPg 0)).toArray 27)).setRow W.heap.size (pgCells p).toArray
theorem putPg_at (W : World) (p : Pg) : PgIn (putPg W p) W.heap.size p := setRow_heap _ _ _ _ _ _ (heap_alloc_last W _)
theorem putPg_below (W : World) (p : Pg) : Below W.heap.size W (putPg W p) := below_setRow ((Below.refl _ _).alloc (Nat.le_refl _) _) (Nat.le_refl _) _
/-- two of them -/
def putPg2 (W : World) (p q : Pg) : World := (((W.alloc (.cells (pgCells (newPg 0)).toArray 27)).alloc (.cells (pgCells (newPg 0)).toArray 27)).setRow W.heap.size (pgCells p).toArray).setRow (W.heap.size + 1) (pgCells q).toArray
theorem two_first (W : World) : ((W.alloc (.cells (pgCells (newPg 0)).toArray 27)).alloc (.cells (pgCells (newPg 0)).toArray 27)).heap[W.heap.size]? = some (.cells (pgCells (newPg 0)).toArray 27 (0, 0)) :=
  (Below.heap_alloc _ _ _ (by simp)).trans (heap_alloc_last W _)
theorem two_second (W : World) (p : Pg) : (((W.alloc (.cells (pgCells (newPg 0)).toArray 27)).alloc (.cells (pgCells (newPg 0)).toArray 27)).setRow W.heap.size (pgCells p).toArray).heap[W.heap.size + 1]? = some (.cells (pgCells (newPg 0)).toArray 27 (0, 0)) := by
  rw [setRow_other _ _ _ _ (by omega)]
  have := heap_alloc_last (W.alloc (.cells (pgCells (newPg 0)).toArray 27)) (.cells (pgCells (newPg 0)).toArray 27)
  rw [World.size_alloc] at this
  exact this
theorem two_second' (W : World) (p : Pg) : (((W.alloc (.cells (pgCells (newPg 0)).toArray 27)).alloc (.cells (pgCells (newPg 0)).toArray 27)).setRow W.heap.size (pgCells p).toArray).heap[(W.alloc (.cells (pgCells (newPg 0)).toArray 27)).heap.size]? = some (.cells (pgCells (newPg 0)).toArray 27 (0, 0)) := by
  rw [World.size_alloc]
  exact two_second W p
theorem putPg2_at (W : World) (p q : Pg) : PgIn (putPg2 W p q) W.heap.size p ∧ PgIn (putPg2 W p q) (W.heap.size + 1) q :=
  ⟨(setRow_other _ _ _ _ (by omega)).trans (setRow_heap _ _ _ _ _ _ (two_first W)), setRow_heap _ _ _ _ _ _ (two_second W p)⟩
theorem putPg2_below (W : World) (p q : Pg) : Below W.heap.size W (putPg2 W p q) :=
  below_setRow (below_setRow (((Below.refl _ _).alloc (Nat.le_refl _) _).alloc (by simp) _) (Nat.le_refl _) _) (by omega) _
theorem start_env {w w1 w2 : World} (hb : Below w.heap.size w w1) (hb2 : Below w1.heap.size w1 w2) (hc2 : CodesOk w2 w1.heap.size) (ht : TabAt w) : Env w w1.heap.size w2 :=
  ⟨hb.trans (hb2.mono hb.size), hc2, hb.size, ht.below (hb.trans (hb2.mono hb.size))⟩
/-- the three operations on whole pages, the operation written out: where another one stands they fail at once -/
theorem wpList_alloc_pg {ops : Array Oper} {rest : List Oper} {a : Act} {w : World} {Q : Exit → Act → World → Prop} {d : Option Tmp} {t : TypeId} {pos : String} {aft : Array Edge}
    (h : wpList Tryd.prog ops Q rest (a.put d (.pointer (some ⟨w.heap.size, 0, none⟩))) (w.alloc (.cells (pgCells (newPg 0)).toArray 27))) :
    wpList Tryd.prog ops Q ({ dst := d, op := .alloc 27, type := t, pos := pos, after := aft, guard := none } :: rest) a w := wpList_alloc_page rfl rfl h
theorem wpList_store_pg (x : Operand) {y : Operand} {ops : Array Oper} {rest : List Oper} {a : Act} {w : World} {Q : Exit → Act → World → Prop} {t : TypeId} {pos : String} {aft : Array Edge}
    (b : Nat) (p q : Pg) (hx : a.eval x = .pointer (some ⟨b, 0, none⟩)) (hy : a.eval y = .agg (pgCells p).toArray) (hg : PgIn w b q) (hp : p.cells.length = 16) (hq : q.cells.length = 16)
    (h : wpList Tryd.prog ops Q rest a (w.setRow b (pgCells p).toArray)) :
    wpList Tryd.prog ops Q ({ dst := none, op := .store 27 x y, type := t, pos := pos, after := aft, guard := none } :: rest) a w :=
  wpList_store_row rfl 27 x y rfl b (pgCells p).toArray hx hy 27 (pgCells q).toArray hg (by rw [size_pg p hp]; exact info_page) (by rw [size_pg p hp, size_pg q hq]) (oneCell_pg p) h
theorem wpList_load_pg (x : Operand) {ops : Array Oper} {rest : List Oper} {a : Act} {w : World} {Q : Exit → Act → World → Prop} {d : Option Tmp} {t : TypeId} {pos : String} {aft : Array Edge}
    (b : Nat) (p : Pg) (hx : a.eval x = .pointer (some ⟨b, 0, none⟩)) (hg : PgIn w b p) (hp : p.cells.length = 16)
    (h : wpList Tryd.prog ops Q rest (a.put d (.agg (pgCells p).toArray)) w) :
    wpList Tryd.prog ops Q ({ dst := d, op := .load 27 x, type := t, pos := pos, after := aft, guard := none } :: rest) a w := by
  obtain ⟨fs, hu⟩ := under_page
  exact wpList_load_row rfl 27 x rfl b hx 27 (pgCells p).toArray (0, 0) _ hg hu rfl (by rw [size_pg p hp]; exact info_page) h
/-- a page's value stored into a new page, where the walk reckons by itself -/
theorem page_store (W : World) (r : Pg) (h : r.cells.length = 16) :
    Sem.run Tryd.prog (storeCells ⟨W.heap.size, 0, none⟩ (pgCells r)) (W.alloc (.cells #[.int .i64 0, .int .i64 0, .bool false, .string ⟨#[]⟩, .bool false, .string ⟨#[]⟩, .bool false, .string ⟨#[]⟩, .bool false, .string ⟨#[]⟩, .bool false, .string ⟨#[]⟩, .bool false, .string ⟨#[]⟩, .bool false, .string ⟨#[]⟩, .bool false, .string ⟨#[]⟩, .bool false, .string ⟨#[]⟩, .bool false, .string ⟨#[]⟩, .bool false, .string ⟨#[]⟩, .bool false, .string ⟨#[]⟩, .bool false, .string ⟨#[]⟩, .bool false, .string ⟨#[]⟩, .bool false, .string ⟨#[]⟩, .bool false, .string ⟨#[]⟩] 27)) = .ok () (W.alloc (.cells (pgCells r).toArray 27)) := by
  have := run_storeCells_new (P := Tryd.prog) W 27 (pgCells (newPg 0)).toArray (pgCells r).toArray (by rw [size_pg r h]; exact info_page) (by rw [size_pg r h]; rfl) (oneCell_pg r)
  rw [newPg_cells, List.toList_toArray] at this
  exact this
/-- the same, where the page was made before -/
theorem page_store_at (W : World) (g : Nat) (r : Pg) (h : r.cells.length = 16) (hg : PgIn W g (newPg 0)) : Sem.run Tryd.prog (storeCells ⟨g, 0, none⟩ (pgCells r)) W = .ok () (W.setRow g (pgCells r).toArray) := by
  have := run_storeVar_row (P := Tryd.prog) W g 27 27 (pgCells (newPg 0)).toArray (pgCells r).toArray hg (by rw [size_pg r h]; exact info_page) (by rw [size_pg r h]; rfl) (oneCell_pg r)
  have hi := info_page
  cases hq : Tryd.prog.info? 27 with
  | none => simp [hq] at hi
  | some i =>
    have hs : (pgCells r).length = i.size := by rw [hq] at hi; simp at hi; rw [pgCells_length, h, hi]
    simpa [storeVar, sizeOf, typeInfo, hq, Value.cells, hs] using this
/-- a page is read behind a guard that lets it -/
theorem wpList_load_pg_w (x : Operand) {ops : Array Oper} {rest : List Oper} {a : Act} {w : World} {Q : Exit → Act → World → Prop} {d : Option Tmp} {t : TypeId} {pos : String} {aft : Array Edge} {gd : Nat × Bool}
    (b : Nat) (p : Pg) (hw : Region.wanted { dst := d, op := .load 27 x, type := t, pos := pos, after := aft, guard := some gd } (yielded ops a.tmps) = true) (hx : a.eval x = .pointer (some ⟨b, 0, none⟩)) (hg : PgIn w b p) (hp : p.cells.length = 16)
    (h : wpList Tryd.prog ops Q rest (a.put d (.agg (pgCells p).toArray)) w) :
    wpList Tryd.prog ops Q ({ dst := d, op := .load 27 x, type := t, pos := pos, after := aft, guard := some gd } :: rest) a w := by
  obtain ⟨fs, hu⟩ := under_page
  exact wpList_load_row_w hw 27 x rfl b hx 27 (pgCells p).toArray (0, 0) _ hg hu rfl (by rw [size_pg p hp]; exact info_page) h
end Go.Proofs.YtoceglomogcgcaaDoor
