/- the choices of the drawing package: Cell -/
import Derived.Test.YtbadfcnkpeohfaaDrData
import Derived.Test.YtbadfcnkpeohfaaPgVal
import Derived.Laws.CopyOwn
namespace Go.Proofs.Ytbadfcnkpeohfaa
open Go.RowKit

/-- what Cell leaves: some valid cell -/
def CellPost (C : Nat) (w : World) (e : Ending) (w' : World) : Prop :=
  ∃ c : Cl, e = .returned (clV c) ∧ cellOkB c = true ∧ Besides C w w' ∧ CodesOk w' C
theorem Besides.then_below {C : Nat} {a w w' : World} (h : Besides C a w) (hb : Below a.heap.size w w') : Besides C a w' :=
  ⟨hb.os.trans h.os, hb.tape.trans h.tape, hb.output.trans h.output, Nat.le_trans h.size hb.size, fun k hk hC => (hb.block k hk).trans (h.block k hk hC), fun hC => (World.cell?_of_block (a := ⟨C, 0, none⟩) (hb.block C hC)).trans (h.head hC)⟩
theorem info_cell : (Try.prog.info? 24).map (·.size) = some 2 := by kernel_rfl
theorem oneCell_cell (b : Bool) (s : ByteArray) : (#[Value.bool b, Value.string s]).all (·.oneCell') = true := by kernel_rfl
theorem under_cell : ∃ fs, Try.prog.underlying 24 = some (.struct fs) := ⟨_, Try.underlying24⟩
set_option maxHeartbeats 1000000 in
theorem cell_any (C : Nat) (w : World) (h : CodesOk w C) :
    Calls Try.prog 27 #[.pointer (some ⟨C, 0, none⟩)] w (CellPost C w) := by
  have HK := Lib.hid h
  clear h
  go_enter Try.func27, Try.ntmps27
  go_wp2_with fail
  refine (next_any C 3 _ (HK.out.below ((Below.refl _ _).alloc (Nat.le_refl _) _) HK.out.lt) (by omega)).mono ?_
  rintro e w2 ⟨n, rfl, n0, n1, hb2, hc2⟩
  have HB2 := Lib.hid (((Besides.refl C w).alloc _).trans hb2)
  have HC2 := Lib.hid hc2
  have HCl := Lib.hid HK.out.lt
  have hne : w.heap.size ≠ C := by have := HK.out.lt; omega
  have hlt0 : w.heap.size < (w.alloc (.cells #[.bool false, .string ⟨#[]⟩] 24)).heap.size := by simp
  have HG2 : Hid (w2.heap[w.heap.size]? = some (.cells #[.bool false, .string ⟨#[]⟩] 24 (0, 0))) := (hb2.block _ hlt0 hne).trans (heap_alloc_last w _)
  have hlt2 : w.heap.size < w2.heap.size := Nat.lt_of_lt_of_le hlt0 hb2.size
  obtain ⟨fs, hu⟩ := under_cell
  have HU := Lib.hid hu
  clear hu
  have HN := Lib.hid hne
  clear n1 hlt0 hb2 hc2 hne
  by_cases h0 : n = 0
  · have h0b : (n == 0) = true := by rw [h0]; rfl
    clear h0
    go_wp2_with (refine wpList_store_row rfl 24 _ _ rfl w.heap.size #[.bool false, .string ⟨#[]⟩] rfl rfl 24 #[.bool false, .string ⟨#[]⟩] HG2.out info_cell rfl (oneCell_cell _ _) ?_)
    refine bodyPost_ret (v := .agg #[.bool false, .string ⟨#[]⟩]) (results_cell_row Try.results27 _ _ w.heap.size 24 _ (0, 0) _ rfl (setRow_heap _ _ _ _ _ _ HG2.out) HU.out rfl info_cell) rfl ⟨⟨false, ⟨#[]⟩⟩, rfl, by decide, ?_, ?_⟩
    · exact HB2.out.then_below (below_setRow (Below.refl _ _) (Nat.le_refl _) _)
    · exact HC2.out.below (below_setRow (Below.refl _ _) (Nat.le_refl _) _) HCl.out
  · have h0b : (n == 0) = false := by rw [beq_eq_false_iff_ne]; exact h0
    clear h0
    go_wp2_with fail
    refine (data_any C _ HC2.out).mono ?_
    rintro e w3 ⟨s, rfl, hs, hb3, hc3⟩
    have HG3 : Hid (w3.heap[w.heap.size]? = some (.cells #[.bool false, .string ⟨#[]⟩] 24 (0, 0))) := (hb3.block _ hlt2 HN.out).trans HG2.out
    have HB3 := Lib.hid (HB2.out.trans hb3)
    have HC3 := Lib.hid hc3
    clear hb3 hc3 hlt2
    by_cases h12 : s.size ≤ 12
    · have hi12 : ¬ (12 < (s.size : Int)) := by omega
      have hi12' : (s.size : Int) ≤ 12 := by omega
      clear h12
      go_wp2_with (refine wpList_store_row rfl 24 _ _ rfl w.heap.size #[.bool true, .string s] rfl rfl 24 #[.bool false, .string ⟨#[]⟩] HG3.out info_cell rfl (oneCell_cell _ _) ?_)
      refine bodyPost_ret (v := .agg #[.bool true, .string s]) (results_cell_row Try.results27 _ _ w.heap.size 24 _ (0, 0) _ rfl (setRow_heap _ _ _ _ _ _ HG3.out) HU.out rfl info_cell) rfl ⟨⟨true, s⟩, rfl, by simp [cellOkB]; omega, ?_, ?_⟩
      · exact HB3.out.then_below (below_setRow (Below.refl _ _) (Nat.le_refl _) _)
      · exact HC3.out.below (below_setRow (Below.refl _ _) (Nat.le_refl _) _) HCl.out
    · have hi12 : 12 < (s.size : Int) := by omega
      have hi12' : (12 : Int) ≤ s.size := by omega
      clear h12
      go_wp2_with (refine wpList_store_row rfl 24 _ _ rfl w.heap.size #[.bool true, .string (s.extract 0 12)] rfl rfl 24 #[.bool false, .string ⟨#[]⟩] HG3.out info_cell rfl (oneCell_cell _ _) ?_)
      refine bodyPost_ret (v := .agg #[.bool true, .string (s.extract 0 12)]) (results_cell_row Try.results27 _ _ w.heap.size 24 _ (0, 0) _ rfl (setRow_heap _ _ _ _ _ _ HG3.out) HU.out rfl info_cell) rfl ⟨⟨true, (s.extract 0 12)⟩, rfl, by simp [cellOkB, ByteArray.size_extract]; omega, ?_, ?_⟩
      · exact HB3.out.then_below (below_setRow (Below.refl _ _) (Nat.le_refl _) _)
      · exact HC3.out.below (below_setRow (Below.refl _ _) (Nat.le_refl _) _) HCl.out
end Go.Proofs.Ytbadfcnkpeohfaa
