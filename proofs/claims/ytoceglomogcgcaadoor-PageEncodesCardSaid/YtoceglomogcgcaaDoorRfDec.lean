/- the walks of the reference's New, Blank, Decode and Identify -/
import Derived.Test.YtoceglomogcgcaaDoorRfEnc
import Derived.Laws.CopyOwn
namespace Go.Proofs.YtoceglomogcgcaaDoor
open Go.RowKit

def emptyCl : Cl := ⟨false, ⟨#[]⟩⟩
def newPg (id : Int) : Pg := ⟨id, 0, List.replicate 16 emptyCl⟩
theorem newPg_cells (id : Int) : (pgCells (newPg id)).toArray = #[.int .i64 id, .int .i64 0, .bool false, .string ⟨#[]⟩, .bool false, .string ⟨#[]⟩, .bool false, .string ⟨#[]⟩, .bool false, .string ⟨#[]⟩, .bool false, .string ⟨#[]⟩, .bool false, .string ⟨#[]⟩, .bool false, .string ⟨#[]⟩, .bool false, .string ⟨#[]⟩, .bool false, .string ⟨#[]⟩, .bool false, .string ⟨#[]⟩, .bool false, .string ⟨#[]⟩, .bool false, .string ⟨#[]⟩, .bool false, .string ⟨#[]⟩, .bool false, .string ⟨#[]⟩, .bool false, .string ⟨#[]⟩, .bool false, .string ⟨#[]⟩] := rfl

theorem alloc_page (w : World) : Sem.run Tryd.prog (Instr.alloc 27 true (.tuple #[])) w = .ok (.pointer (some ⟨w.heap.size, 0, none⟩)) (w.alloc (.cells (pgCells (newPg 0)).toArray 27)) := by kernel_rfl
theorem build_new (id : Int) (w : World) : Sem.run Tryd.prog (Instr.build 27 #[(0, .int .i64 id)]) w = .ok (.agg (pgCells (newPg id)).toArray) w := by kernel_rfl
theorem oneCell_new (id : Int) : ((pgCells (newPg id)).toArray).all (·.oneCell') = true := by kernel_rfl
theorem size_new (id : Int) : ((pgCells (newPg id)).toArray).size = 34 := by kernel_rfl

/-- a new page in memory, without its cells written out -/
theorem wpList_alloc_page {ops : Array Oper} {rest : List Oper} {o : Oper} {a : Act} {w : World} {Q : Exit → Act → World → Prop} (hg : o.guard = none) (ho : o.op = .alloc 27)
    (h : wpList Tryd.prog ops Q rest (a.put o.dst (.pointer (some ⟨w.heap.size, 0, none⟩))) (w.alloc (.cells (pgCells (newPg 0)).toArray 27))) : wpList Tryd.prog ops Q (o :: rest) a w :=
  wpList_plain hg fun K hK => by
    unfold Oper.wp execOp
    simp only [ho, Sem.run_bind, alloc_page w, Result.andThen_ok, Sem.run_pure]
    exact hK _ _ h
theorem wpList_build_new {ops : Array Oper} {rest : List Oper} {o : Oper} {a : Act} {w : World} {Q : Exit → Act → World → Prop} (hg : o.guard = none) (x : Operand) (id : Int) (ho : o.op = .build 27 #[(0, x)]) (hx : a.eval x = .int .i64 id)
    (h : wpList Tryd.prog ops Q rest (a.put o.dst (.agg (pgCells (newPg id)).toArray)) w) : wpList Tryd.prog ops Q (o :: rest) a w :=
  wpList_plain hg fun K hK => by
    unfold Oper.wp execOp
    have hb := build_new id w
    rw [← hx] at hb
    simp only [ho, List.map_toArray, List.map_cons, List.map_nil, Sem.run_bind, hb, Result.andThen_ok, Sem.run_pure]
    exact hK _ _ h

set_option maxHeartbeats 1000000 in
theorem rnew (id : Int) (w : World) : Calls Tryd.prog 20 #[.int .i64 id] w fun e w' => e = .returned (pgV (newPg id)) ∧ Below w.heap.size w w' := by
  have HO := Lib.hid (oneCell_new id)
  have HZ := Lib.hid (size_new id)
  have HZ0 := Lib.hid (size_new 0)
  unfold pgV
  have HG : Hid ((w.alloc (.cells (pgCells (newPg 0)).toArray 27)).heap[w.heap.size]? = some (.cells (pgCells (newPg 0)).toArray 27 (0, 0))) := heap_alloc_last w _
  go_enter Tryd.func20, Tryd.ntmps20
  go_wp2_with (first | (refine wpList_alloc_page rfl rfl ?_) | (refine wpList_build_new rfl _ id rfl rfl ?_) | (refine wpList_store_row rfl 27 _ _ rfl w.heap.size (pgCells (newPg id)).toArray rfl rfl 27 (pgCells (newPg 0)).toArray HG.out (by rw [HZ.out]; exact info_page) (by rw [HZ.out, HZ0.out]) HO.out ?_))
  obtain ⟨fs, hu⟩ := under_page
  refine bodyPost_ret (v := .agg (pgCells (newPg id)).toArray) (results_cell_row Tryd.results20 _ _ w.heap.size 27 _ (0, 0) _ rfl (setRow_heap _ _ _ _ _ _ HG.out) hu rfl (by rw [HZ.out]; exact info_page)) rfl ⟨rfl, ?_⟩
  exact below_setRow ((Below.refl _ _).alloc (Nat.le_refl _) _) (Nat.le_refl _) _
set_option maxHeartbeats 400000 in
theorem rblank (w : World) : Calls Tryd.prog 22 #[] w fun e w' => e = .returned (.string (zeroS 256)) ∧ Below w.heap.size w w' := by
  go_enter Tryd.func22, Tryd.ntmps22
  go_wp2_with fail
  refine (rzeros 256 _ (by decide)).mono ?_
  rintro e w2 ⟨rfl, hb⟩
  go_wp2_with fail
  go_ret
  exact ⟨rfl, hb⟩
end Go.Proofs.YtoceglomogcgcaaDoor
