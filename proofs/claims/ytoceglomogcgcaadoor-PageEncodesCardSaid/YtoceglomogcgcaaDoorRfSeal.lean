/- the walks of the reference's Valid and Seal -/
import Derived.Test.YtoceglomogcgcaaDoorRfEnc
namespace Go.Proofs.YtoceglomogcgcaaDoor
open Go.RowKit

/-- a page is read behind a guard that lets it -/
theorem wpList_load_row_w {P : Program} {ops : Array Oper} {rest : List Oper} {o : Oper} {a : Act} {w : World} {Q : Exit → Act → World → Prop} (hw : Region.wanted o (yielded ops a.tmps) = true) (ty : TypeId) (x : Operand) (ho : o.op = .load ty x)
    (g : Nat) (hx : a.eval x = .pointer (some ⟨g, 0, none⟩)) (t : TypeId) (cs : Array Value) (fr : Nat × Nat) (d : TypeDesc) (hg : w.heap[g]? = some (.cells cs t fr))
    (hu : P.underlying ty = some d) (hd : (match d with | .struct _ | .array _ _ => true | _ => false) = true) (hi : (P.info? ty).map (·.size) = some cs.size)
    (h : wpList P ops Q rest (a.put o.dst (.agg cs)) w) : wpList P ops Q (o :: rest) a w :=
  wpList_step fun K hK => by rw [if_pos hw]; exact wp_load_row ty x ho g hx t cs fr d hg hu hd hi (hK _ _ h)
set_option maxHeartbeats 1000000 in
theorem rvalid (p : Pg) (w : World) (hl : p.cells.length = 16) (hs : ∀ c ∈ p.cells, c.data.size ≤ maxLen) :
    Calls Tryd.prog 18 #[pgV p] w fun e w' => e = .returned (.bool (numB p && cellsB p)) ∧ Below w.heap.size w w' := by
  have HN : Hid (∀ w' : World, Calls Tryd.prog 43 #[.agg (pgCells p).toArray] w' fun e w'' => e = .returned (.bool (numB p)) ∧ Below w'.heap.size w' w'') := fun w' => rnumbers p w'
  have HC : Hid (∀ w' : World, Calls Tryd.prog 44 #[.agg (pgCells p).toArray] w' fun e w'' => e = .returned (.bool (cellsB p)) ∧ Below w'.heap.size w' w'') := fun w' => rcells p w' hl hs
  have HZ : Hid ((pgCells p).toArray.size = 34) := by show _ = _; rw [List.size_toArray, pgCells_length, hl]
  clear hl hs
  unfold pgV
  generalize (pgCells p).toArray = C at *
  have HG1 : Hid ((w.alloc (.cells C 27)).heap[w.heap.size]? = some (.cells C 27 (0, 0))) := heap_alloc_last w _
  have HBw : Hid (Below w.heap.size w (w.alloc (.cells C 27))) := (Below.refl _ _).alloc (Nat.le_refl _) _
  obtain ⟨fs, hu⟩ := under_page
  have HU := Lib.hid hu
  clear hu
  go_enter Tryd.func18, Tryd.ntmps18
  go_wp2_with (refine wpList_load_row rfl 27 _ rfl w.heap.size rfl 27 C (0, 0) _ HG1.out HU.out rfl (by rw [HZ.out]; exact info_page) ?_)
  refine (HN.out _).mono ?_
  rintro e w2 ⟨rfl, hb1⟩
  have HG2 : Hid (w2.heap[w.heap.size]? = some (.cells C 27 (0, 0))) := (hb1.block _ (by simp)).trans HG1.out
  have HB2 := Lib.hid (HBw.out.trans (hb1.mono (by simp)))
  clear hb1
  cases hn : numB p
  · have HNF := Lib.hid hn
    clear hn
    go_wp2_with fail
    go_ret
    exact ⟨by rw [HNF.out]; rfl, HB2.out⟩
  · have HNF := Lib.hid hn
    clear hn
    go_wp2_with (refine wpList_load_row_w rfl 27 _ rfl w.heap.size rfl 27 C (0, 0) _ HG2.out HU.out rfl (by rw [HZ.out]; exact info_page) ?_)
    refine (HC.out _).mono ?_
    rintro e w3 ⟨rfl, hb3⟩
    have HB3 := Lib.hid (HB2.out.trans (hb3.mono HB2.out.size))
    clear hb3
    go_wp2_with fail
    go_ret
    exact ⟨by rw [HNF.out]; rfl, HB3.out⟩

/-- what Seal answers -/
def sealR (s : ByteArray) : ByteArray := putR s (Crc.sum s.data.toList).toNat 4 ++ s.extract 0 8
set_option maxHeartbeats 1000000 in
theorem rseal (s : ByteArray) (w : World) (h8 : 8 ≤ s.size) (hs : s.size ≤ 1048576) :
    Calls Tryd.prog 50 #[.string s] w fun e w' => e = .returned (.string (sealR s)) ∧ Below w.heap.size w w' := by
  have hi8 : (8 : Int) ≤ s.size := by omega
  have HX : Hid (sealR s = putR s ((Crc.sum s.data.toList).toNat : Int) 4 ++ s.extract 0 8) := rfl
  have HS : Hid (∀ w' : World, Calls Tryd.prog 42 #[.string s] w' fun e w'' => e = .returned (.int .u32 ((Crc.sum s.data.toList).toNat : Int)) ∧ w' = w'') := fun w' => rsum_any s w' (by unfold maxLen; omega)
  have hs0 := (Crc.sum s.data.toList).isLt
  have hs1 : (Crc.sum s.data.toList).toNat ≤ 4294967295 := by omega
  clear hs0
  generalize (Crc.sum s.data.toList).toNat = q at *
  have hqw : IntKind.i64.wrap (q : Int) = q := IntWalk.i64_in _ (by omega)
  have h80 : (0 : Int) ≤ 8 := by omega
  have h8n : (8 : Int).toNat = 8 := rfl
  have HP : Hid (∀ w' : World, Calls Tryd.prog 40 #[.string s, .int .i64 (q : Int), .int .i64 4] w' fun e w'' => e = .returned (.string (putR s q 4)) ∧ Below w'.heap.size w' w'') := fun w' => rput_any s q 4 w' (by omega)
  have hz : (putR s (q : Int) 4).size ≤ 1048580 := by rw [show putR s (q : Int) 4 = _ from putR_list s q 4 (by decide) (by decide), ofL_size, List.length_append, leL_length, size_list]; omega
  have hz2 : (s.extract 0 8).size ≤ 8 := by rw [ByteArray.size_extract]; omega
  generalize putR s (q : Int) 4 = T at *
  have ha : ∀ W : World, Sem.run Tryd.prog (Op.stringOp .add T (s.extract 0 8)) W = .ok (.string (T ++ s.extract 0 8)) W := fun W => run_string_add_sum W _ _ (by omega)
  go_enter Tryd.func50, Tryd.ntmps50
  go_wp2_with fail
  go_region_with (first | (go_at_call 42; refine (HS.out _).mono ?_; rintro e w6 ⟨rfl, rfl⟩) | (go_at_call 40; refine (HP.out _).mono ?_; rintro e w7 ⟨rfl, hb⟩; have HB := Lib.hid ((Below.refl w.heap.size w).drew.trans hb); clear hb))
  all_goals go_wp2
  all_goals go_ret
  all_goals exact ⟨by rw [HX.out]; first | rfl | (simp only [Act.put, List.getElem_toArray, List.getElem_cons_succ, List.getElem_cons_zero, List.setIfInBounds_toArray, List.set_cons_succ, List.set_cons_zero]; rfl), HB.out⟩
end Go.Proofs.YtoceglomogcgcaaDoor
