/- what PageEncodes needs besides: the program's Valid, a slice of four pages -/
import Derived.Test.YtoceglomogcgcaaDoorLwEnv
import Derived.Great.BuildSlice
namespace Go.Proofs.YtoceglomogcgcaaDoor
open Go.RowKit

set_option maxHeartbeats 1000000 in
theorem valid_any (p : Pg) (w : World) (hl : p.cells.length = 16) (hs : ∀ c ∈ p.cells, c.data.size ≤ maxLen) :
    Calls Tryd.prog 17 #[pgV p] w fun e w' => e = .returned (.bool (checkR p == 0)) ∧ Below w.heap.size w w' := by
  have HC : Hid (∀ w' : World, Calls Tryd.prog 33 #[.agg (pgCells p).toArray] w' fun e w'' => e = .returned (.int .i64 (checkR p)) ∧ Below w'.heap.size w' w'') := fun w' => check_any p w' hl hs
  have HL := Lib.hid hl
  have HG : Hid (PgIn (w.alloc (.cells (pgCells p).toArray 27)) w.heap.size p) := heap_alloc_last w _
  have HB : Hid (Below w.heap.size w (w.alloc (.cells (pgCells p).toArray 27))) := (Below.refl _ _).alloc (Nat.le_refl _) _
  clear hl hs
  unfold pgV
  go_enter Tryd.func17, Tryd.ntmps17
  go_wp2_with ((with_reducible refine wpList_load_pg (.tmp 1) w.heap.size p ?_ ?_ ?_ ?_); (exact rfl); (exact HG.out); (exact HL.out); simp only [Act.put, List.setIfInBounds_toArray, List.set_cons_zero, List.set_cons_succ])
  refine (HC.out _).mono ?_
  rintro e w2 ⟨rfl, hb⟩
  have HB2 := Lib.hid (HB.out.trans (hb.mono (by simp)))
  clear hb
  generalize hcn : checkR p = n at *
  have HCN := Lib.hid hcn
  clear hcn
  go_wp2_with fail
  go_ret
  exact ⟨by rw [HCN.out]; rfl, HB2.out⟩
/-- four pages, one after the other, lie at a block -/
def PagesS (W : World) (B : Nat) (l : List Pg) : Prop := W.heap[B]? = some (.cells (l.flatMap pgCells).toArray 27 (0, 0))
theorem PagesS.calls {W W' : World} {B : Nat} {l : List Pg} (h : PagesS W B l) (hb : Below W.heap.size W W') : PagesS W' B l := (hb.block _ (Array.getElem?_eq_some_iff.1 h).1).trans h
theorem flat_part : ∀ (l : List Pg) (k : Nat) (h : k < l.length), (∀ p ∈ l, p.cells.length = 16) → ∀ j v, (pgCells l[k])[j]? = some v → (l.flatMap pgCells)[k * 34 + j]? = some v
  | [], k, h, _, _, _, _ => by simp at h
  | p :: l, 0, _, hl, j, v, hv => by
    rw [List.flatMap_cons, Nat.zero_mul, Nat.zero_add]
    have hj : j < (pgCells p).length := (List.getElem?_eq_some_iff.1 hv).1
    rw [List.getElem?_append_left hj]
    exact hv
  | p :: l, k + 1, h, hl, j, v, hv => by
    rw [List.flatMap_cons]
    have h34 : (pgCells p).length = 34 := by rw [pgCells_length, hl p (List.mem_cons_self ..)]
    rw [show (k + 1) * 34 + j = 34 + (k * 34 + j) from by omega, List.getElem?_append_right (by omega), h34, Nat.add_sub_cancel_left]
    exact flat_part l k (by simpa using h) (fun x hx => hl x (List.mem_cons_of_mem _ hx)) j v hv
theorem PagesS.range {W : World} {B : Nat} {l : List Pg} (h : PagesS W B l) (k : Nat) (hk : k < l.length) (hl : ∀ p ∈ l, p.cells.length = 16) : W.rangeAt B (k * 34) (pgCells l[k]) := fun j v hv => by
  rw [cell_of_row W B (k * 34 + j) _ _ _ h, List.getElem?_toArray]
  exact flat_part l k hk hl j v hv
theorem fill_pages (a b c d : Pg) (ha : a.cells.length = 16) (hb : b.cells.length = 16) (hc : c.cells.length = 16) (hd : d.cells.length = 16) (cells : Array Value) (hn : cells.size = 136) :
    Instr.fill (fun i => some (i * 34, 34)) cells [(0, .agg (pgCells a).toArray), (1, .agg (pgCells b).toArray), (2, .agg (pgCells c).toArray), (3, .agg (pgCells d).toArray)] = some (([a, b, c, d] : List Pg).flatMap pgCells).toArray := by
  have := Great.fill_whole (s := 34) (by omega) [.agg (pgCells a).toArray, .agg (pgCells b).toArray, .agg (pgCells c).toArray, .agg (pgCells d).toArray] cells (by
    intro v hv
    simp only [List.mem_cons, List.not_mem_nil, or_false] at hv
    rcases hv with rfl | rfl | rfl | rfl
    · exact size_pg a ha
    · exact size_pg b hb
    · exact size_pg c hc
    · exact size_pg d hd) (by rw [hn]; rfl)
  exact this
theorem zero_page : ((Tryd.prog.info? 27).bind (·.zero)).isSome = true := by kernel_rfl
theorem build_pages (a b c d : Pg) (ha : a.cells.length = 16) (hb : b.cells.length = 16) (hc : c.cells.length = 16) (hd : d.cells.length = 16) (w : World) :
    Sem.run Tryd.prog (Instr.buildSlice 34 4 #[(0, .agg (pgCells a).toArray), (1, .agg (pgCells b).toArray), (2, .agg (pgCells c).toArray), (3, .agg (pgCells d).toArray)]) w = .ok (.slice (some ⟨w.heap.size, 0, none⟩) 4 4) (w.alloc (.cells (([a, b, c, d] : List Pg).flatMap pgCells).toArray 27)) := by
  have hz := zero_page
  have hi := info_page
  cases hq : Tryd.prog.info? 27 with
  | none => simp [hq] at hi
  | some ie =>
    rw [hq] at hz hi
    obtain ⟨z, hzz⟩ := Option.isSome_iff_exists.1 hz
    have hs : ie.size = 34 := by simpa using hi
    exact run_buildSlice w 34 27 4 _ _ ie z Tryd.underlying34 hq (by simpa using hzz) (by rw [hs]; decide) (by rw [hs]; decide) (by rw [hs]; exact fill_pages a b c d ha hb hc hd _ (by rw [Array.size_map, Array.size_range]))
theorem wp_build_pages {o : Oper} {act : Act} {w : World} {K : Act → World → Prop} {Q : Exit → Act → World → Prop} (x0 x1 x2 x3 : Operand) (ho : o.op = .buildSlice 34 4 #[(0, x0), (1, x1), (2, x2), (3, x3)])
    (a b c d : Pg) (ha : a.cells.length = 16) (hb : b.cells.length = 16) (hc : c.cells.length = 16) (hd : d.cells.length = 16)
    (h0 : act.eval x0 = .agg (pgCells a).toArray) (h1 : act.eval x1 = .agg (pgCells b).toArray) (h2 : act.eval x2 = .agg (pgCells c).toArray) (h3 : act.eval x3 = .agg (pgCells d).toArray)
    (h : K (act.put o.dst (.slice (some ⟨w.heap.size, 0, none⟩) 4 4)) (w.alloc (.cells (([a, b, c, d] : List Pg).flatMap pgCells).toArray 27))) : o.wp Tryd.prog act w K Q := by
  unfold Oper.wp execOp
  have hbp := build_pages a b c d ha hb hc hd w
  rw [← h0, ← h1, ← h2, ← h3] at hbp
  simp only [ho, List.map_toArray, List.map_cons, List.map_nil, Sem.run_bind, hbp, Result.andThen_ok, Sem.run_pure]
  exact h
end Go.Proofs.YtoceglomogcgcaaDoor
