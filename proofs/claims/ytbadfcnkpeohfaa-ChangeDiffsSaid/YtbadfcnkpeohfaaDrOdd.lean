/- the choices of the drawing package: OddPage -/
import Derived.Test.YtbadfcnkpeohfaaDrPage
import Derived.Test.YtbadfcnkpeohfaaDrInt
namespace Go.Proofs.Ytbadfcnkpeohfaa
open Go.RowKit

/-- what OddPage leaves: some page, its numbers numbers -/
def OddPost (C : Nat) (w : World) (e : Ending) (w' : World) : Prop :=
  ∃ p : Pg, e = .returned (pgV p) ∧ p.cells.length = 16 ∧ (∀ c ∈ p.cells, c.data.size ≤ 13) ∧ (-9223372036854775808 ≤ p.id ∧ p.id ≤ 9223372036854775807) ∧ (-9223372036854775808 ≤ p.lsn ∧ p.lsn ≤ 9223372036854775807) ∧ Besides C w w' ∧ CodesOk w' C
theorem PgIn.setId {w : World} {B : Nat} {p : Pg} (h : PgIn w B p) (n : Int) : PgIn (w.setCell ⟨B, 0, none⟩ (.int .i64 n)) B ⟨n, p.lsn, p.cells⟩ :=
  (heap_setCell_same w B 0 _ _ _ h).trans rfl
theorem small_set {l : List Cl} {k : Nat} {st : Bool} {d : ByteArray} (h : ∀ c ∈ l, c.data.size ≤ 13) (hd : d.size ≤ 13) : ∀ c ∈ l.set k ⟨st, d⟩, c.data.size ≤ 13 := by
  intro c hc
  rcases List.mem_or_eq_of_mem_set hc with h1 | rfl
  · exact h c h1
  · exact hd
set_option maxHeartbeats 4000000 in
theorem odd_any (C : Nat) (p : Pg) (w : World) (h : CodesOk w C) (hl : p.cells.length = 16) (hs : ∀ c ∈ p.cells, c.data.size ≤ 13) (hi : -9223372036854775808 ≤ p.id ∧ p.id ≤ 9223372036854775807) (hn : -9223372036854775808 ≤ p.lsn ∧ p.lsn ≤ 9223372036854775807) :
    Calls Try.prog 21 #[.pointer (some ⟨C, 0, none⟩), pgV p] w (OddPost C w) := by
  have HK := Lib.hid h
  have HPg : Hid (p.cells.length = 16 ∧ (∀ c ∈ p.cells, c.data.size ≤ 13) ∧ (-9223372036854775808 ≤ p.id ∧ p.id ≤ 9223372036854775807) ∧ (-9223372036854775808 ≤ p.lsn ∧ p.lsn ≤ 9223372036854775807)) := ⟨hl, hs, hi, hn⟩
  clear h hl hs hi hn
  obtain ⟨fs, hu⟩ := under_page
  have HU := Lib.hid hu
  clear hu
  unfold pgV
  go_enter Try.func21, Try.ntmps21
  have HP0 : Hid (PgIn (w.alloc (.cells (pgCells p).toArray 27)) w.heap.size p) := heap_alloc_last w _
  have HZp := Lib.hid (size_pg p HPg.out.1)
  have HCR : Hid (C < w.heap.size + 1) := by have := HK.out.lt; show _ < _; omega
  have HCP : Hid (C < w.heap.size) := HK.out.lt
  have HPC : Hid (w.heap.size ≠ C) := by have := HK.out.lt; show _ ≠ _; omega
  have HRC : Hid (w.heap.size + 1 ≠ C) := by have := HK.out.lt; show _ ≠ _; omega
  have HRP : Hid (w.heap.size + 1 ≠ w.heap.size) := by show _ ≠ _; omega
  have HPx : Hid (PgIn ((w.alloc (.cells (pgCells p).toArray 27)).alloc (.cells (pgCells (newPg 0)).toArray 27)) w.heap.size p) := (Below.heap_alloc _ _ _ HP0.out.lt).trans HP0.out
  have HRx : Hid (PgIn ((w.alloc (.cells (pgCells p).toArray 27)).alloc (.cells (pgCells (newPg 0)).toArray 27)) (w.heap.size + 1) (newPg 0)) := by
    have := heap_alloc_last (w.alloc (.cells (pgCells p).toArray 27)) (.cells (pgCells (newPg 0)).toArray 27)
    rw [World.size_alloc] at this
    exact this
  go_wp2_with (first | (refine wpList_alloc_page rfl rfl ?_))
  refine (next_any C 4 _ (CodesOk.below (CodesOk.below HK.out ((Below.refl _ _).alloc (Nat.le_refl _) _) HK.out.lt) (B := w.heap.size) ((Below.refl _ _).alloc (by simp) _) HK.out.lt) (by omega)).mono ?_
  rintro e w2 ⟨n, rfl, n0, n1, hb2, hc2⟩
  have HP2 := Lib.hid (HPx.out.besides hb2 HPC.out)
  have HR2 := Lib.hid (HRx.out.besides hb2 HRC.out)
  have HB2 := Lib.hid ((((Besides.refl C w).alloc _).alloc _).trans hb2)
  have HC2 := Lib.hid hc2
  clear hb2 hc2
  by_cases h0 : n = 0
  · have e0 : (n == 0) = true := by rw [h0]; rfl
    clear h0
    go_wp2_with fail
    refine (int_any C _ HC2.out).mono ?_
    rintro e w3 ⟨x, rfl, x0, x1, hb3, hc3⟩
    have HP3 := Lib.hid (HP2.out.besides hb3 HPC.out)
    have HR3 := Lib.hid (HR2.out.besides hb3 HRC.out)
    have HB3 := Lib.hid (HB2.out.trans hb3)
    have HC3 := Lib.hid hc3
    clear hb3 hc3
    have a1 : w3.cell? ⟨w.heap.size, 0, none⟩ = some (.int .i64 p.id) := HP3.out.cell 0
    have g1 := HP3.out.frozen 0
    have HX : Hid (-9223372036854775808 ≤ x ∧ x ≤ 9223372036854775807) := ⟨x0, x1⟩
    clear x0 x1
    have HZq := Lib.hid (size_pg ⟨x, p.lsn, p.cells⟩ HPg.out.1)
    have HZ0 := Lib.hid (size_pg (newPg 0) rfl)
    have HOq := Lib.hid (oneCell_pg ⟨x, p.lsn, p.cells⟩)
    have HGP : Hid ((w3.setCell ⟨w.heap.size, 0, none⟩ (.int .i64 x)).heap[w.heap.size]? = some (.cells (pgCells ⟨x, p.lsn, p.cells⟩).toArray 27 (0, 0))) := PgIn.setId HP3.out _
    have HGR : Hid ((w3.setCell ⟨w.heap.size, 0, none⟩ (.int .i64 x)).heap[w.heap.size + 1]? = some (.cells (pgCells (newPg 0)).toArray 27 (0, 0))) := PgIn.other HR3.out _ _ HRP.out
    go_wp2_with (first | (refine wpList_load_row rfl 27 _ rfl w.heap.size rfl 27 _ (0, 0) _ HGP.out HU.out rfl (by rw [HZq.out]; exact info_page) ?_) | (refine wpList_store_row rfl 27 _ _ rfl (w.heap.size + 1) (pgCells ⟨x, p.lsn, p.cells⟩).toArray rfl rfl 27 (pgCells (newPg 0)).toArray HGR.out (by rw [HZq.out]; exact info_page) (by rw [HZq.out, HZ0.out]) HOq.out ?_))
    refine bodyPost_ret (v := .agg (pgCells ⟨x, p.lsn, p.cells⟩).toArray) (results_cell_row Try.results21 _ _ (w.heap.size + 1) 27 _ (0, 0) _ rfl (setRow_heap _ _ _ _ _ _ HGR.out) HU.out rfl (by rw [HZq.out]; exact info_page)) rfl ⟨⟨x, p.lsn, p.cells⟩, rfl, HPg.out.1, HPg.out.2.1, HX.out, HPg.out.2.2.2, ?_, ?_⟩
    · exact Besides.then_below (Besides.setOwn HB3.out (Nat.le_refl _) _ _) (below_setRow (Below.refl _ _) (Nat.le_succ _) _)
    · exact CodesOk.below (CodesOk.setOwn HC3.out HCP.out _ _) (below_setRow (Below.refl _ _) (Nat.le_refl _) _) HCR.out
  have e0 : (n == 0) = false := by rw [beq_eq_false_iff_ne]; exact h0
  by_cases h1 : n = 1
  · have e1 : (n == 1) = true := by rw [h1]; rfl
    clear h1 h0
    go_wp2_with fail
    refine (int_any C _ HC2.out).mono ?_
    rintro e w3 ⟨x, rfl, x0, x1, hb3, hc3⟩
    have HP3 := Lib.hid (HP2.out.besides hb3 HPC.out)
    have HR3 := Lib.hid (HR2.out.besides hb3 HRC.out)
    have HB3 := Lib.hid (HB2.out.trans hb3)
    have HC3 := Lib.hid hc3
    clear hb3 hc3
    have a1 : w3.cell? ⟨w.heap.size, 1, none⟩ = some (.int .i64 p.lsn) := HP3.out.cell 1
    have g1 := HP3.out.frozen 1
    have HX : Hid (-9223372036854775808 ≤ x ∧ x ≤ 9223372036854775807) := ⟨x0, x1⟩
    clear x0 x1
    have HZq := Lib.hid (size_pg ⟨p.id, x, p.cells⟩ HPg.out.1)
    have HZ0 := Lib.hid (size_pg (newPg 0) rfl)
    have HOq := Lib.hid (oneCell_pg ⟨p.id, x, p.cells⟩)
    have HGP : Hid ((w3.setCell ⟨w.heap.size, 1, none⟩ (.int .i64 x)).heap[w.heap.size]? = some (.cells (pgCells ⟨p.id, x, p.cells⟩).toArray 27 (0, 0))) := PgIn.setLsn HP3.out _
    have HGR : Hid ((w3.setCell ⟨w.heap.size, 1, none⟩ (.int .i64 x)).heap[w.heap.size + 1]? = some (.cells (pgCells (newPg 0)).toArray 27 (0, 0))) := PgIn.other HR3.out _ _ HRP.out
    go_wp2_with (first | (refine wpList_load_row rfl 27 _ rfl w.heap.size rfl 27 _ (0, 0) _ HGP.out HU.out rfl (by rw [HZq.out]; exact info_page) ?_) | (refine wpList_store_row rfl 27 _ _ rfl (w.heap.size + 1) (pgCells ⟨p.id, x, p.cells⟩).toArray rfl rfl 27 (pgCells (newPg 0)).toArray HGR.out (by rw [HZq.out]; exact info_page) (by rw [HZq.out, HZ0.out]) HOq.out ?_))
    refine bodyPost_ret (v := .agg (pgCells ⟨p.id, x, p.cells⟩).toArray) (results_cell_row Try.results21 _ _ (w.heap.size + 1) 27 _ (0, 0) _ rfl (setRow_heap _ _ _ _ _ _ HGR.out) HU.out rfl (by rw [HZq.out]; exact info_page)) rfl ⟨⟨p.id, x, p.cells⟩, rfl, HPg.out.1, HPg.out.2.1, HPg.out.2.2.1, HX.out, ?_, ?_⟩
    · exact Besides.then_below (Besides.setOwn HB3.out (Nat.le_refl _) _ _) (below_setRow (Below.refl _ _) (Nat.le_succ _) _)
    · exact CodesOk.below (CodesOk.setOwn HC3.out HCP.out _ _) (below_setRow (Below.refl _ _) (Nat.le_refl _) _) HCR.out
  have e1 : (n == 1) = false := by rw [beq_eq_false_iff_ne]; exact h1
  by_cases h2 : n = 2
  · have e2 : (n == 2) = true := by rw [h2]; rfl
    clear h2 h1 h0
    go_wp2_with fail
    refine (next_any C 16 _ HC2.out (by omega)).mono ?_
    rintro e w3 ⟨x, rfl, x0, x1, hb3, hc3⟩
    have HP3 := Lib.hid (HP2.out.besides hb3 HPC.out)
    have HR3 := Lib.hid (HR2.out.besides hb3 HRC.out)
    have HB3 := Lib.hid (HB2.out.trans hb3)
    have HC3 := Lib.hid hc3
    clear hb3 hc3
    obtain ⟨j, rfl⟩ := Int.eq_ofNat_of_zero_le x0
    have hj : j < 16 := by omega
    clear x0 x1
    go_wp2_with fail
    refine (next_any C 2 _ HC3.out (by omega)).mono ?_
    rintro e w4 ⟨y, rfl, y0, y1, hb4, hc4⟩
    have HP4 := Lib.hid (HP3.out.besides hb4 HPC.out)
    have HR4 := Lib.hid (HR3.out.besides hb4 HRC.out)
    have HB4 := Lib.hid (HB3.out.trans hb4)
    have HC4 := Lib.hid hc4
    clear hb4 hc4
    go_wp2_with fail
    refine (data_any C _ HC4.out).mono ?_
    rintro e w5 ⟨d, rfl, hd, hb5, hc5⟩
    have HP5 := Lib.hid (HP4.out.besides hb5 HPC.out)
    have HR5 := Lib.hid (HR4.out.besides hb5 HRC.out)
    have HB5 := Lib.hid (HB4.out.trans hb5)
    have HC5 := Lib.hid hc5
    clear hb5 hc5
    generalize (y == 1) = st
    have hjl : j < p.cells.length := by rw [HPg.out.1]; exact hj
    have HJ := Lib.hid hjl
    have c0 := (HP5.out.get hjl).1
    have c1 := (HP5.out.get hjl).2
    have f0 := HP5.out.frozen (2 + j * 2)
    have f1 := HP5.out.frozen (2 + j * 2 + 1)
    generalize p.cells[j] = old at c0 c1
    have hds : d.size ≤ 13 := hd
    have HS := Lib.hid hds
    clear hjl hds
    have HZq := Lib.hid (size_pg ⟨p.id, p.lsn, p.cells.set j ⟨st, d⟩⟩ (by rw [List.length_set]; exact HPg.out.1))
    have HZ0 := Lib.hid (size_pg (newPg 0) rfl)
    have HOq := Lib.hid (oneCell_pg ⟨p.id, p.lsn, p.cells.set j ⟨st, d⟩⟩)
    have HGP : Hid (((w5.setCell ⟨w.heap.size, 2 + j * 2, none⟩ (.bool st)).setCell ⟨w.heap.size, 2 + j * 2 + 1, none⟩ (.string d)).heap[w.heap.size]? = some (.cells (pgCells ⟨p.id, p.lsn, p.cells.set j ⟨st, d⟩⟩).toArray 27 (0, 0))) := PgIn.setCell HP5.out HJ.out ⟨st, d⟩
    have HGR : Hid (((w5.setCell ⟨w.heap.size, 2 + j * 2, none⟩ (.bool st)).setCell ⟨w.heap.size, 2 + j * 2 + 1, none⟩ (.string d)).heap[w.heap.size + 1]? = some (.cells (pgCells (newPg 0)).toArray 27 (0, 0))) := (PgIn.other (PgIn.other HR5.out _ _ HRP.out) _ _ HRP.out)
    go_wp2_with (first | (refine wpList_load_row rfl 27 _ rfl w.heap.size rfl 27 _ (0, 0) _ HGP.out HU.out rfl (by rw [HZq.out]; exact info_page) ?_) | (refine wpList_store_row rfl 27 _ _ rfl (w.heap.size + 1) (pgCells ⟨p.id, p.lsn, p.cells.set j ⟨st, d⟩⟩).toArray rfl rfl 27 (pgCells (newPg 0)).toArray HGR.out (by rw [HZq.out]; exact info_page) (by rw [HZq.out, HZ0.out]) HOq.out ?_))
    refine bodyPost_ret (v := .agg (pgCells ⟨p.id, p.lsn, p.cells.set j ⟨st, d⟩⟩).toArray) (results_cell_row Try.results21 _ _ (w.heap.size + 1) 27 _ (0, 0) _ rfl (setRow_heap _ _ _ _ _ _ HGR.out) HU.out rfl (by rw [HZq.out]; exact info_page)) rfl ⟨⟨p.id, p.lsn, p.cells.set j ⟨st, d⟩⟩, rfl, (by rw [List.length_set]; exact HPg.out.1), small_set HPg.out.2.1 HS.out, HPg.out.2.2.1, HPg.out.2.2.2, ?_, ?_⟩
    · exact Besides.then_below (Besides.setOwn (Besides.setOwn HB5.out (Nat.le_refl _) _ _) (Nat.le_refl _) _ _) (below_setRow (Below.refl _ _) (Nat.le_succ _) _)
    · exact CodesOk.below (CodesOk.setOwn (CodesOk.setOwn HC5.out HCP.out _ _) HCP.out _ _) (below_setRow (Below.refl _ _) (Nat.le_refl _) _) HCR.out
  have e2 : (n == 2) = false := by rw [beq_eq_false_iff_ne]; exact h2
  by_cases h3 : n = 3
  · have e3 : (n == 3) = true := by rw [h3]; rfl
    clear h3 h2 h1 h0
    go_wp2_with fail
    refine (next_any C 16 _ HC2.out (by omega)).mono ?_
    rintro e w3 ⟨x, rfl, x0, x1, hb3, hc3⟩
    have HP3 := Lib.hid (HP2.out.besides hb3 HPC.out)
    have HR3 := Lib.hid (HR2.out.besides hb3 HRC.out)
    have HB3 := Lib.hid (HB2.out.trans hb3)
    have HC3 := Lib.hid hc3
    clear hb3 hc3
    obtain ⟨j, rfl⟩ := Int.eq_ofNat_of_zero_le x0
    have hj : j < 16 := by omega
    clear x0 x1
    go_wp2_with fail
    refine (cell_any C _ HC3.out).mono ?_
    rintro e w4 ⟨c, rfl, hok, hb4, hc4⟩
    have HP4 := Lib.hid (HP3.out.besides hb4 HPC.out)
    have HR4 := Lib.hid (HR3.out.besides hb4 HRC.out)
    have HB4 := Lib.hid (HB3.out.trans hb4)
    have HC4 := Lib.hid hc4
    clear hb4 hc4
    obtain ⟨st, d⟩ := c
    have hd : d.size ≤ 13 := by unfold cellOkB at hok; simp at hok; omega
    unfold clV clCells
    clear hok
    have hjl : j < p.cells.length := by rw [HPg.out.1]; exact hj
    have HJ := Lib.hid hjl
    have c0 := (HP4.out.get hjl).1
    have c1 := (HP4.out.get hjl).2
    have f0 := HP4.out.frozen (2 + j * 2)
    have f1 := HP4.out.frozen (2 + j * 2 + 1)
    generalize p.cells[j] = old at c0 c1
    have hds : d.size ≤ 13 := hd
    have HS := Lib.hid hds
    clear hjl hds
    have HZq := Lib.hid (size_pg ⟨p.id, p.lsn, p.cells.set j ⟨st, d⟩⟩ (by rw [List.length_set]; exact HPg.out.1))
    have HZ0 := Lib.hid (size_pg (newPg 0) rfl)
    have HOq := Lib.hid (oneCell_pg ⟨p.id, p.lsn, p.cells.set j ⟨st, d⟩⟩)
    have HGP : Hid (((w4.setCell ⟨w.heap.size, 2 + j * 2, none⟩ (.bool st)).setCell ⟨w.heap.size, 2 + j * 2 + 1, none⟩ (.string d)).heap[w.heap.size]? = some (.cells (pgCells ⟨p.id, p.lsn, p.cells.set j ⟨st, d⟩⟩).toArray 27 (0, 0))) := PgIn.setCell HP4.out HJ.out ⟨st, d⟩
    have HGR : Hid (((w4.setCell ⟨w.heap.size, 2 + j * 2, none⟩ (.bool st)).setCell ⟨w.heap.size, 2 + j * 2 + 1, none⟩ (.string d)).heap[w.heap.size + 1]? = some (.cells (pgCells (newPg 0)).toArray 27 (0, 0))) := (PgIn.other (PgIn.other HR4.out _ _ HRP.out) _ _ HRP.out)
    go_wp2_with (first | (refine wpList_load_row rfl 27 _ rfl w.heap.size rfl 27 _ (0, 0) _ HGP.out HU.out rfl (by rw [HZq.out]; exact info_page) ?_) | (refine wpList_store_row rfl 27 _ _ rfl (w.heap.size + 1) (pgCells ⟨p.id, p.lsn, p.cells.set j ⟨st, d⟩⟩).toArray rfl rfl 27 (pgCells (newPg 0)).toArray HGR.out (by rw [HZq.out]; exact info_page) (by rw [HZq.out, HZ0.out]) HOq.out ?_))
    refine bodyPost_ret (v := .agg (pgCells ⟨p.id, p.lsn, p.cells.set j ⟨st, d⟩⟩).toArray) (results_cell_row Try.results21 _ _ (w.heap.size + 1) 27 _ (0, 0) _ rfl (setRow_heap _ _ _ _ _ _ HGR.out) HU.out rfl (by rw [HZq.out]; exact info_page)) rfl ⟨⟨p.id, p.lsn, p.cells.set j ⟨st, d⟩⟩, rfl, (by rw [List.length_set]; exact HPg.out.1), small_set HPg.out.2.1 HS.out, HPg.out.2.2.1, HPg.out.2.2.2, ?_, ?_⟩
    · exact Besides.then_below (Besides.setOwn (Besides.setOwn HB4.out (Nat.le_refl _) _ _) (Nat.le_refl _) _ _) (below_setRow (Below.refl _ _) (Nat.le_succ _) _)
    · exact CodesOk.below (CodesOk.setOwn (CodesOk.setOwn HC4.out HCP.out _ _) HCP.out _ _) (below_setRow (Below.refl _ _) (Nat.le_refl _) _) HCR.out
  have e3 : (n == 3) = false := by rw [beq_eq_false_iff_ne]; exact h3
  clear h3 h2 h1 h0
  have HZq := Lib.hid (size_pg p HPg.out.1)
  have HZ0 := Lib.hid (size_pg (newPg 0) rfl)
  have HOq := Lib.hid (oneCell_pg p)
  have HGP : Hid (w2.heap[w.heap.size]? = some (.cells (pgCells p).toArray 27 (0, 0))) := HP2.out
  have HGR : Hid (w2.heap[w.heap.size + 1]? = some (.cells (pgCells (newPg 0)).toArray 27 (0, 0))) := HR2.out
  go_wp2_with (first | (refine wpList_load_row rfl 27 _ rfl w.heap.size rfl 27 _ (0, 0) _ HGP.out HU.out rfl (by rw [HZq.out]; exact info_page) ?_) | (refine wpList_store_row rfl 27 _ _ rfl (w.heap.size + 1) (pgCells p).toArray rfl rfl 27 (pgCells (newPg 0)).toArray HGR.out (by rw [HZq.out]; exact info_page) (by rw [HZq.out, HZ0.out]) HOq.out ?_))
  refine bodyPost_ret (v := .agg (pgCells p).toArray) (results_cell_row Try.results21 _ _ (w.heap.size + 1) 27 _ (0, 0) _ rfl (setRow_heap _ _ _ _ _ _ HGR.out) HU.out rfl (by rw [HZq.out]; exact info_page)) rfl ⟨p, rfl, HPg.out.1, HPg.out.2.1, HPg.out.2.2.1, HPg.out.2.2.2, ?_, ?_⟩
  · exact Besides.then_below HB2.out (below_setRow (Below.refl _ _) (Nat.le_succ _) _)
  · exact CodesOk.below HC2.out (below_setRow (Below.refl _ _) (Nat.le_refl _) _) HCR.out
end Go.Proofs.Ytbadfcnkpeohfaa
