/- the choices of the drawing package: Page -/
import Derived.Test.YtbadfcnkpeohfaaDrCell
import Derived.Test.YtbadfcnkpeohfaaPgVal
namespace Go.Proofs.Ytbadfcnkpeohfaa
open Go.RowKit

/-- a page is block B -/
def PgIn (w : World) (B : Nat) (p : Pg) : Prop := w.heap[B]? = some (.cells (pgCells p).toArray 27 (0, 0))
theorem PgIn.lt {w : World} {B : Nat} {p : Pg} (h : PgIn w B p) : B < w.heap.size := (Array.getElem?_eq_some_iff.1 h).1
theorem PgIn.besides {w w' : World} {B C : Nat} {p : Pg} (h : PgIn w B p) (hb : Besides C w w') (hC : B ≠ C) : PgIn w' B p := (hb.block B h.lt hC).trans h
theorem PgIn.cell {w : World} {B : Nat} {p : Pg} (h : PgIn w B p) (i : Nat) : w.cell? ⟨B, i, none⟩ = (pgCells p)[i]? := by
  unfold PgIn at h
  simp [World.cell?, h]
theorem PgIn.frozen {w : World} {B : Nat} {p : Pg} (h : PgIn w B p) (i : Nat) : w.frozen? ⟨B, i, none⟩ = false := by
  unfold PgIn at h
  simp [World.frozen?, h]
theorem PgIn.lsn {w : World} {B : Nat} {p : Pg} (h : PgIn w B p) : w.cell? ⟨B, 1, none⟩ = some (.int .i64 p.lsn) := h.cell 1
theorem PgIn.setLsn {w : World} {B : Nat} {p : Pg} (h : PgIn w B p) (n : Int) : PgIn (w.setCell ⟨B, 1, none⟩ (.int .i64 n)) B ⟨p.id, n, p.cells⟩ :=
  (heap_setCell_same w B 1 _ _ _ h).trans rfl
theorem rowCells_set : ∀ (l : List Cl) (k : Nat) (c : Cl), k < l.length → ((rowCells l).set (2 * k) (.bool c.set)).set (2 * k + 1) (.string c.data) = rowCells (l.set k c)
  | [], _, _, h => absurd h (by simp)
  | a :: l, 0, c, _ => by simp [rowCells, clCells]
  | a :: l, k + 1, c, h => by
    have := rowCells_set l k c (by simpa using h)
    show (((Value.bool a.set) :: (.string a.data) :: rowCells l).set (2 * (k + 1)) _).set (2 * (k + 1) + 1) _ = _
    rw [show 2 * (k + 1) = 2 * k + 1 + 1 from by omega]
    simp only [List.set_cons_succ]
    rw [this]
    rfl
theorem PgIn.setCell {w : World} {B k : Nat} {p : Pg} (h : PgIn w B p) (hk : k < p.cells.length) (c : Cl) : PgIn ((w.setCell ⟨B, 2 + k * 2, none⟩ (.bool c.set)).setCell ⟨B, 2 + k * 2 + 1, none⟩ (.string c.data)) B ⟨p.id, p.lsn, p.cells.set k c⟩ := by
  have e1 := heap_setCell_same w B (2 + k * 2) _ _ (.bool c.set) h
  refine (heap_setCell_same _ B (2 + k * 2 + 1) _ _ (.string c.data) e1).trans ?_
  have : (((pgCells p).toArray.setIfInBounds (2 + k * 2) (.bool c.set)).setIfInBounds (2 + k * 2 + 1) (.string c.data)) = (pgCells ⟨p.id, p.lsn, p.cells.set k c⟩).toArray := by
    rw [List.setIfInBounds_toArray, List.setIfInBounds_toArray]
    congr 1
    show ((Value.int .i64 p.id :: .int .i64 p.lsn :: rowCells p.cells).set (2 + k * 2) _).set (2 + k * 2 + 1) _ = Value.int .i64 p.id :: .int .i64 p.lsn :: rowCells (p.cells.set k c)
    rw [← rowCells_set p.cells k c hk, show 2 + k * 2 = 2 * k + 1 + 1 from by omega]
    simp only [List.set_cons_succ]
  rw [this]

theorem build_new2 (id lsn : Int) (w : World) : Sem.run Try.prog (Instr.build 27 #[(0, .int .i64 id), (1, .int .i64 lsn)]) w = .ok (.agg (pgCells ⟨id, lsn, (newPg 0).cells⟩).toArray) w := by kernel_rfl
theorem oneCell_new2 (id lsn : Int) : ((pgCells ⟨id, lsn, (newPg 0).cells⟩).toArray).all (·.oneCell') = true := by kernel_rfl
theorem size_new2 (id lsn : Int) : ((pgCells ⟨id, lsn, (newPg 0).cells⟩).toArray).size = 34 := by kernel_rfl
theorem wpList_build_new2 {ops : Array Oper} {rest : List Oper} {o : Oper} {a : Act} {w : World} {Q : Exit → Act → World → Prop} (hg : o.guard = none) (x y : Operand) (id lsn : Int) (ho : o.op = .build 27 #[(0, x), (1, y)]) (hx : a.eval x = .int .i64 id) (hy : a.eval y = .int .i64 lsn)
    (h : wpList Try.prog ops Q rest (a.put o.dst (.agg (pgCells ⟨id, lsn, (newPg 0).cells⟩).toArray)) w) : wpList Try.prog ops Q (o :: rest) a w :=
  wpList_plain hg fun K hK => by
    unfold Oper.wp execOp
    have hb := build_new2 id lsn w
    rw [← hx, ← hy] at hb
    simp only [ho, List.map_toArray, List.map_cons, List.map_nil, Sem.run_bind, hb, Result.andThen_ok, Sem.run_pure]
    exact hK _ _ h

/-- what Page leaves: some valid page -/
def PagePost (C : Nat) (id : Int) (w : World) (e : Ending) (w' : World) : Prop :=
  ∃ p : Pg, e = .returned (pgV p) ∧ p.id = id ∧ p.cells.length = 16 ∧ 0 ≤ p.lsn ∧ p.lsn ≤ 1099511627776 ∧ cellsB p = true ∧ Besides C w w' ∧ CodesOk w' C
theorem oneCell_pg (p : Pg) : ((pgCells p).toArray).all (·.oneCell') = true := by
  rw [List.all_toArray]
  show ((true && (true && (rowCells p.cells).all _))) = true
  rw [Bool.true_and, Bool.true_and, List.all_eq_true]
  intro v hv
  unfold rowCells at hv
  rw [List.mem_flatMap] at hv
  obtain ⟨c, _, hc⟩ := hv
  simp [clCells] at hc
  rcases hc with rfl | rfl <;> rfl
theorem size_pg (p : Pg) (h : p.cells.length = 16) : ((pgCells p).toArray).size = 34 := by rw [List.size_toArray, pgCells_length, h]
theorem cellsB_set {l : Int} {q : Pg} {k : Nat} {c : Cl} (hl : 0 < l) (hq : cellsB q = true) (hn : q.lsn = l) (hc : cellOkB c = true) : cellsB ⟨q.id, q.lsn, q.cells.set k c⟩ = true := by
  unfold cellsB at hq ⊢
  rw [List.all_eq_true] at hq ⊢
  intro x hx
  rcases List.mem_or_eq_of_mem_set hx with h | rfl
  · exact hq x h
  · have : ¬ (q.lsn = 0) := by omega
    simp [cellB, hc, this]
theorem cellsB_new (id l : Int) : cellsB ⟨id, l, (newPg 0).cells⟩ = true := by
  unfold cellsB
  rw [List.all_eq_true]
  intro x hx
  have : x = emptyCl := List.eq_of_mem_replicate hx
  subst this
  have h : cellOkB emptyCl = true := by decide
  simp [cellB, h, show emptyCl.set = false from rfl]
theorem PgIn.get {w : World} {B k : Nat} {p : Pg} (h : PgIn w B p) (hk : k < p.cells.length) : w.cell? ⟨B, 2 + k * 2, none⟩ = some (.bool p.cells[k].set) ∧ w.cell? ⟨B, 2 + k * 2 + 1, none⟩ = some (.string p.cells[k].data) := by
  rw [h.cell, h.cell, show 2 + k * 2 = 2 + 2 * k from by omega]
  exact pgCells_get p k hk
theorem PgIn.other {w : World} {B D : Nat} {p : Pg} (h : PgIn w B p) (j : Nat) (u : Value) (hD : B ≠ D) : PgIn (w.setCell ⟨D, j, none⟩ u) B p := (Below.heap_setCell _ _ _ _ hD).trans h
theorem Besides.setOwn {C B : Nat} {a w : World} (h : Besides C a w) (hB : a.heap.size ≤ B) (j : Nat) (u : Value) : Besides C a (w.setCell ⟨B, j, none⟩ u) :=
  h.then_below ((Below.refl _ _).setCell (p := ⟨B, j, none⟩) hB u)
theorem CodesOk.setOwn {C B : Nat} {w : World} (h : CodesOk w C) (hB : C < B) (j : Nat) (u : Value) : CodesOk (w.setCell ⟨B, j, none⟩ u) C :=
  h.below ((Below.refl B w).setCell (p := ⟨B, j, none⟩) (Nat.le_refl _) u) hB
set_option maxHeartbeats 4000000 in
theorem page_any (C : Nat) (id : Int) (w : World) (h : CodesOk w C) :
    Calls Try.prog 9 #[.pointer (some ⟨C, 0, none⟩), .int .i64 id] w (PagePost C id w) := by
  have HK := Lib.hid h
  clear h
  obtain ⟨fs, hu⟩ := under_page
  have HU := Lib.hid hu
  clear hu
  go_enter Try.func9, Try.ntmps9
  go_wp2_with (first | (refine wpList_alloc_page rfl rfl ?_) | (refine wpList_build_new2 rfl _ _ id _ rfl rfl rfl ?_))
  refine (next_any C 50 _ (HK.out.below ((Below.refl _ _).alloc (Nat.le_refl _) _) HK.out.lt) (by omega)).mono ?_
  rintro e w2 ⟨n, rfl, n0, n1, hb2, hc2⟩
  have hCw := HK.out.lt
  have hR2 : PgIn w2 w.heap.size (newPg 0) := PgIn.besides (w := w.alloc _) (heap_alloc_last w _) hb2 (by omega)
  have HB2 := Lib.hid (((Besides.refl C w).alloc _).trans hb2)
  have HC2 := Lib.hid hc2
  have HCR : Hid (C < w.heap.size) := hCw
  have HRC : Hid (w.heap.size ≠ C) := by show _ ≠ _; omega
  have hRP := hR2.lt
  have n2 : n ≤ 49 := by omega
  have HGa : Hid ((w2.alloc (.cells (pgCells (newPg 0)).toArray 27)).heap[w2.heap.size]? = some (.cells (pgCells (newPg 0)).toArray 27 (0, 0))) := heap_alloc_last w2 _
  have HZn := Lib.hid (size_new2 id n)
  have HZ0' := Lib.hid (size_new 0)
  have HOn := Lib.hid (oneCell_new2 id n)
  have HB3 : Hid (Besides C w ((w2.alloc (.cells (pgCells (newPg 0)).toArray 27)).setRow w2.heap.size (pgCells ⟨id, n, (newPg 0).cells⟩).toArray)) := (HB2.out.alloc _).then_below (below_setRow (Below.refl _ _) (by omega) _)
  have HC3 : Hid (CodesOk ((w2.alloc (.cells (pgCells (newPg 0)).toArray 27)).setRow w2.heap.size (pgCells ⟨id, n, (newPg 0).cells⟩).toArray) C) := (HC2.out.below ((Below.refl _ _).alloc (Nat.le_refl _) _) HC2.out.lt).below (below_setRow (Below.refl _ _) (Nat.le_refl _) _) HC2.out.lt
  have HP3 : Hid (PgIn ((w2.alloc (.cells (pgCells (newPg 0)).toArray 27)).setRow w2.heap.size (pgCells ⟨id, n, (newPg 0).cells⟩).toArray) w2.heap.size ⟨id, n, (newPg 0).cells⟩) := setRow_heap _ _ _ _ _ _ HGa.out
  have HR3 : Hid (PgIn ((w2.alloc (.cells (pgCells (newPg 0)).toArray 27)).setRow w2.heap.size (pgCells ⟨id, n, (newPg 0).cells⟩).toArray) w.heap.size (newPg 0)) := (setRow_other _ _ _ _ (by omega)).trans ((Below.heap_alloc _ _ _ hRP).trans hR2)
  have HPC : Hid (w2.heap.size ≠ C) := by show _ ≠ _; omega
  have HRP : Hid (w.heap.size ≠ w2.heap.size) := by show _ ≠ _; omega
  have HPw : Hid (w.heap.size ≤ w2.heap.size) := by show _ ≤ _; omega
  have HRw : Hid (w.heap.size ≤ w.heap.size) := Nat.le_refl _
  have HCP : Hid (C < w2.heap.size) := by show _ < _; omega
  clear hb2 hc2 hR2 hRP n1 hCw
  go_wp2_with (first | (refine wpList_alloc_page rfl rfl ?_) | (refine wpList_build_new2 rfl _ _ id n rfl rfl rfl ?_) | (refine wpList_store_row rfl 27 _ _ rfl w2.heap.size (pgCells ⟨id, n, (newPg 0).cells⟩).toArray rfl rfl 27 (pgCells (newPg 0)).toArray HGa.out (by rw [HZn.out]; exact info_page) (by rw [HZn.out, HZ0'.out]) HOn.out ?_))
  clear HGa
  generalize ((w2.alloc (.cells (pgCells (newPg 0)).toArray 27)).setRow w2.heap.size (pgCells ⟨id, n, (newPg 0).cells⟩).toArray) = w3 at *
  generalize w2.heap.size = P at *
  refine (next_any C 10 _ HC3.out (by omega)).mono ?_
  rintro e w4 ⟨m, rfl, m0, m1, hb4, hc4⟩
  have HP4 := Lib.hid (HP3.out.besides hb4 HPC.out)
  have HR4 := Lib.hid (HR3.out.besides hb4 HRC.out)
  have HB4 := Lib.hid (HB3.out.trans hb4)
  have HC4 := Lib.hid hc4
  clear hb4 hc4 m1
  by_cases h9 : m = 9
  · have h9b : (m == 9) = true := by rw [h9]; rfl
    clear h9
    go_wp2_with fail
    refine (next_any C 2 _ HC4.out (by omega)).mono ?_
    rintro e w5 ⟨x, rfl, x0, x1, hb5, hc5⟩
    have x2 : x ≤ 1 := by omega
    have HP5 := Lib.hid (HP4.out.besides hb5 HPC.out)
    have HR5 := Lib.hid (HR4.out.besides hb5 HRC.out)
    have HB5 := Lib.hid (HB4.out.trans hb5)
    have HC5 := Lib.hid hc5
    clear hb5 hc5 x1
    have a1 : w5.cell? ⟨P, 1, none⟩ = some (.int .i64 n) := HP5.out.lsn
    have g1 := HP5.out.frozen 1
    obtain ⟨l, hl⟩ : ∃ l, l = 1099511627776 - x := ⟨_, rfl⟩
    have hwx : IntKind.i64.wrap (1099511627776 - x) = l := by rw [IntWalk.i64_in _ (by omega)]; exact hl.symm
    have hl0 : 0 ≤ l := by omega
    have hl1 : l ≤ 1099511627776 := by omega
    have HPW : Hid (PgIn (w5.setCell ⟨P, 1, none⟩ (.int .i64 l)) P ⟨id, l, (newPg 0).cells⟩) := HP5.out.setLsn _
    have HRW : Hid (PgIn (w5.setCell ⟨P, 1, none⟩ (.int .i64 l)) w.heap.size (newPg 0)) := PgIn.other HR5.out _ _ HRP.out
    have HBW : Hid (Besides C w (w5.setCell ⟨P, 1, none⟩ (.int .i64 l))) := Besides.setOwn HB5.out HPw.out _ _
    have HCW : Hid (CodesOk (w5.setCell ⟨P, 1, none⟩ (.int .i64 l)) C) := CodesOk.setOwn HC5.out HCP.out _ _
    have b1 : (w5.setCell ⟨P, 1, none⟩ (.int .i64 l)).cell? ⟨P, 1, none⟩ = some (.int .i64 l) := HPW.out.lsn
    clear hl x0 x2
    have HLl : Hid (0 ≤ l ∧ l ≤ 1099511627776) := ⟨hl0, hl1⟩
    by_cases hpos : 0 < l
    · have HPos := Lib.hid hpos
      go_wp2_with fail
      refine (next_any C 6 _ HCW.out (by omega)).mono ?_
      rintro e w6 ⟨k, rfl, k0, k1, hb6, hc6⟩
      have HP6 := Lib.hid (HPW.out.besides hb6 HPC.out)
      have HR6 := Lib.hid (HRW.out.besides hb6 HRC.out)
      have HB6 := Lib.hid (HBW.out.trans hb6)
      have HC6 := Lib.hid hc6
      have k2 : k ≤ 5 := by omega
      clear hb6 hc6 k1 b1 hpos
      go_wp2_with fail
      go_loopw [6] (fun i wr => ∃ (k : Int) (q : Pg), 0 ≤ k ∧ k ≤ 5 ∧ i = .int .i64 k ∧ q.id = id ∧ q.lsn = l ∧ q.cells.length = 16 ∧ cellsB q = true ∧ PgIn wr P q ∧ PgIn wr w.heap.size (newPg 0) ∧ Besides C w wr ∧ CodesOk wr C) (fun i _ => (intOf i).toNat)
      case atStart => exact ⟨k, _, k0, k2, rfl, rfl, rfl, rfl, cellsB_new _ _, HP6.out, HR6.out, HB6.out, HC6.out⟩
      case round =>
        obtain ⟨k, q, k0, k2, rfl, hqi, hql, hqn, hqc, hp, hr, hb, hc⟩ := hrel
        have HQ : Hid (q.id = id ∧ q.lsn = l ∧ q.cells.length = 16 ∧ cellsB q = true) := ⟨hqi, hql, hqn, hqc⟩
        have HP := Lib.hid hp
        have HR := Lib.hid hr
        have HB := Lib.hid hb
        have HC := Lib.hid hc
        clear hqi hql hqn hqc hp hr hb hc
        by_cases hk : 0 < k
        · go_wp2_with fail
          refine (next_any C 16 _ HC.out (by omega)).mono ?_
          rintro e w7 ⟨x, rfl, x0, x1, hb7, hc7⟩
          obtain ⟨j, rfl⟩ := Int.eq_ofNat_of_zero_le x0
          have hj : j < 16 := by omega
          have HP7 := Lib.hid (HP.out.besides hb7 HPC.out)
          have HR7 := Lib.hid (HR.out.besides hb7 HRC.out)
          have HB7 := Lib.hid (HB.out.trans hb7)
          have HC7 := Lib.hid hc7
          clear hb7 hc7 x0 x1
          go_wp2_with fail
          refine (cell_any C _ HC7.out).mono ?_
          rintro e w8 ⟨c, rfl, hok, hb8, hc8⟩
          have HP8 := Lib.hid (HP7.out.besides hb8 HPC.out)
          have HR8 := Lib.hid (HR7.out.besides hb8 HRC.out)
          have HB8 := Lib.hid (HB7.out.trans hb8)
          have HC8 := Lib.hid hc8
          have hjl : j < q.cells.length := by rw [HQ.out.2.2.1]; exact hj
          have HJ := Lib.hid hjl
          have c0 := (HP8.out.get hjl).1
          have c1 := (HP8.out.get hjl).2
          have f0 := HP8.out.frozen (2 + j * 2)
          have f1 := HP8.out.frozen (2 + j * 2 + 1)
          have HOK := Lib.hid hok
          generalize q.cells[j] = old at c0 c1
          obtain ⟨st, d⟩ := c
          unfold clV clCells
          clear hb8 hc8 hok hjl
          go_wp2_with fail
          go_roundw
          case rel => exact ⟨k - 1, ⟨q.id, q.lsn, q.cells.set j ⟨st, d⟩⟩, by omega, by omega, by first | rfl | (congr 1; exact IntWalk.i64_in _ (by omega)), HQ.out.1, HQ.out.2.1, by rw [List.length_set]; exact HQ.out.2.2.1, cellsB_set HPos.out HQ.out.2.2.2 HQ.out.2.1 HOK.out, HP8.out.setCell HJ.out ⟨st, d⟩, (HR8.out.other _ _ HRP.out).other _ _ HRP.out, (HB8.out.setOwn HPw.out _ _).setOwn HPw.out _ _, (HC8.out.setOwn HCP.out _ _).setOwn HCP.out _ _⟩
          case measure => simp [intOf]; omega
        · clear k0 k2
          have HZq := Lib.hid (size_pg q HQ.out.2.2.1)
          have HZ0 := Lib.hid (size_pg (newPg 0) rfl)
          have HOq := Lib.hid (oneCell_pg q)
          have HGP : Hid (wr.heap[P]? = some (.cells (pgCells q).toArray 27 (0, 0))) := HP.out
          have HGR : Hid (wr.heap[w.heap.size]? = some (.cells (pgCells (newPg 0)).toArray 27 (0, 0))) := HR.out
          go_wp2_with (first | (refine wpList_load_row rfl 27 _ rfl P rfl 27 _ (0, 0) _ HGP.out HU.out rfl (by rw [HZq.out]; exact info_page) ?_) | (refine wpList_store_row rfl 27 _ _ rfl w.heap.size (pgCells q).toArray rfl rfl 27 (pgCells (newPg 0)).toArray HGR.out (by rw [HZq.out]; exact info_page) (by rw [HZq.out, HZ0.out]) HOq.out ?_))
          refine bodyPost_ret (v := .agg (pgCells q).toArray) (results_cell_row Try.results9 _ _ w.heap.size 27 _ (0, 0) _ rfl (setRow_heap _ _ _ _ _ _ HGR.out) HU.out rfl (by rw [HZq.out]; exact info_page)) rfl ⟨q, rfl, HQ.out.1, HQ.out.2.2.1, (by rw [HQ.out.2.1]; exact HLl.out.1), (by rw [HQ.out.2.1]; exact HLl.out.2), HQ.out.2.2.2, ?_, ?_⟩
          · exact HB.out.then_below (below_setRow (Below.refl _ _) HRw.out _)
          · exact HC.out.below (below_setRow (Below.refl _ _) (Nat.le_refl _) _) HCR.out
    · clear hl0 hl1
      have HZq := Lib.hid (size_pg ⟨id, l, (newPg 0).cells⟩ rfl)
      have HZ0 := Lib.hid (size_pg (newPg 0) rfl)
      have HOq := Lib.hid (oneCell_pg ⟨id, l, (newPg 0).cells⟩)
      have HGP : Hid ((w5.setCell ⟨P, 1, none⟩ (.int .i64 l)).heap[P]? = some (.cells (pgCells ⟨id, l, (newPg 0).cells⟩).toArray 27 (0, 0))) := HPW.out
      have HGR : Hid ((w5.setCell ⟨P, 1, none⟩ (.int .i64 l)).heap[w.heap.size]? = some (.cells (pgCells (newPg 0)).toArray 27 (0, 0))) := HRW.out
      go_wp2_with (first | (refine wpList_load_row rfl 27 _ rfl P rfl 27 _ (0, 0) _ HGP.out HU.out rfl (by rw [HZq.out]; exact info_page) ?_) | (refine wpList_store_row rfl 27 _ _ rfl w.heap.size (pgCells ⟨id, l, (newPg 0).cells⟩).toArray rfl rfl 27 (pgCells (newPg 0)).toArray HGR.out (by rw [HZq.out]; exact info_page) (by rw [HZq.out, HZ0.out]) HOq.out ?_))
      refine bodyPost_ret (v := .agg (pgCells ⟨id, l, (newPg 0).cells⟩).toArray) (results_cell_row Try.results9 _ _ w.heap.size 27 _ (0, 0) _ rfl (setRow_heap _ _ _ _ _ _ HGR.out) HU.out rfl (by rw [HZq.out]; exact info_page)) rfl ⟨⟨id, l, (newPg 0).cells⟩, rfl, rfl, rfl, HLl.out.1, HLl.out.2, cellsB_new _ _, ?_, ?_⟩
      · exact HBW.out.then_below (below_setRow (Below.refl _ _) HRw.out _)
      · exact HCW.out.below (below_setRow (Below.refl _ _) (Nat.le_refl _) _) HCR.out
  · have h9b : (m == 9) = false := by rw [beq_eq_false_iff_ne]; exact h9
    clear h9
    have HPW := HP4
    have HRW := HR4
    have HBW := HB4
    have HCW := HC4
    obtain ⟨l, hl⟩ : ∃ l, l = n := ⟨_, rfl⟩
    rw [← hl] at HPW
    have hl0 : 0 ≤ l := by omega
    have hl1 : l ≤ 1099511627776 := by omega
    have b1 : w4.cell? ⟨P, 1, none⟩ = some (.int .i64 l) := HPW.out.lsn
    clear hl
    have HLl : Hid (0 ≤ l ∧ l ≤ 1099511627776) := ⟨hl0, hl1⟩
    by_cases hpos : 0 < l
    · have HPos := Lib.hid hpos
      go_wp2_with fail
      refine (next_any C 6 _ HCW.out (by omega)).mono ?_
      rintro e w6 ⟨k, rfl, k0, k1, hb6, hc6⟩
      have HP6 := Lib.hid (HPW.out.besides hb6 HPC.out)
      have HR6 := Lib.hid (HRW.out.besides hb6 HRC.out)
      have HB6 := Lib.hid (HBW.out.trans hb6)
      have HC6 := Lib.hid hc6
      have k2 : k ≤ 5 := by omega
      clear hb6 hc6 k1 b1 hpos
      go_wp2_with fail
      go_loopw [6] (fun i wr => ∃ (k : Int) (q : Pg), 0 ≤ k ∧ k ≤ 5 ∧ i = .int .i64 k ∧ q.id = id ∧ q.lsn = l ∧ q.cells.length = 16 ∧ cellsB q = true ∧ PgIn wr P q ∧ PgIn wr w.heap.size (newPg 0) ∧ Besides C w wr ∧ CodesOk wr C) (fun i _ => (intOf i).toNat)
      case atStart => exact ⟨k, _, k0, k2, rfl, rfl, rfl, rfl, cellsB_new _ _, HP6.out, HR6.out, HB6.out, HC6.out⟩
      case round =>
        obtain ⟨k, q, k0, k2, rfl, hqi, hql, hqn, hqc, hp, hr, hb, hc⟩ := hrel
        have HQ : Hid (q.id = id ∧ q.lsn = l ∧ q.cells.length = 16 ∧ cellsB q = true) := ⟨hqi, hql, hqn, hqc⟩
        have HP := Lib.hid hp
        have HR := Lib.hid hr
        have HB := Lib.hid hb
        have HC := Lib.hid hc
        clear hqi hql hqn hqc hp hr hb hc
        by_cases hk : 0 < k
        · go_wp2_with fail
          refine (next_any C 16 _ HC.out (by omega)).mono ?_
          rintro e w7 ⟨x, rfl, x0, x1, hb7, hc7⟩
          obtain ⟨j, rfl⟩ := Int.eq_ofNat_of_zero_le x0
          have hj : j < 16 := by omega
          have HP7 := Lib.hid (HP.out.besides hb7 HPC.out)
          have HR7 := Lib.hid (HR.out.besides hb7 HRC.out)
          have HB7 := Lib.hid (HB.out.trans hb7)
          have HC7 := Lib.hid hc7
          clear hb7 hc7 x0 x1
          go_wp2_with fail
          refine (cell_any C _ HC7.out).mono ?_
          rintro e w8 ⟨c, rfl, hok, hb8, hc8⟩
          have HP8 := Lib.hid (HP7.out.besides hb8 HPC.out)
          have HR8 := Lib.hid (HR7.out.besides hb8 HRC.out)
          have HB8 := Lib.hid (HB7.out.trans hb8)
          have HC8 := Lib.hid hc8
          have hjl : j < q.cells.length := by rw [HQ.out.2.2.1]; exact hj
          have HJ := Lib.hid hjl
          have c0 := (HP8.out.get hjl).1
          have c1 := (HP8.out.get hjl).2
          have f0 := HP8.out.frozen (2 + j * 2)
          have f1 := HP8.out.frozen (2 + j * 2 + 1)
          have HOK := Lib.hid hok
          generalize q.cells[j] = old at c0 c1
          obtain ⟨st, d⟩ := c
          unfold clV clCells
          clear hb8 hc8 hok hjl
          go_wp2_with fail
          go_roundw
          case rel => exact ⟨k - 1, ⟨q.id, q.lsn, q.cells.set j ⟨st, d⟩⟩, by omega, by omega, by first | rfl | (congr 1; exact IntWalk.i64_in _ (by omega)), HQ.out.1, HQ.out.2.1, by rw [List.length_set]; exact HQ.out.2.2.1, cellsB_set HPos.out HQ.out.2.2.2 HQ.out.2.1 HOK.out, HP8.out.setCell HJ.out ⟨st, d⟩, (HR8.out.other _ _ HRP.out).other _ _ HRP.out, (HB8.out.setOwn HPw.out _ _).setOwn HPw.out _ _, (HC8.out.setOwn HCP.out _ _).setOwn HCP.out _ _⟩
          case measure => simp [intOf]; omega
        · clear k0 k2
          have HZq := Lib.hid (size_pg q HQ.out.2.2.1)
          have HZ0 := Lib.hid (size_pg (newPg 0) rfl)
          have HOq := Lib.hid (oneCell_pg q)
          have HGP : Hid (wr.heap[P]? = some (.cells (pgCells q).toArray 27 (0, 0))) := HP.out
          have HGR : Hid (wr.heap[w.heap.size]? = some (.cells (pgCells (newPg 0)).toArray 27 (0, 0))) := HR.out
          go_wp2_with (first | (refine wpList_load_row rfl 27 _ rfl P rfl 27 _ (0, 0) _ HGP.out HU.out rfl (by rw [HZq.out]; exact info_page) ?_) | (refine wpList_store_row rfl 27 _ _ rfl w.heap.size (pgCells q).toArray rfl rfl 27 (pgCells (newPg 0)).toArray HGR.out (by rw [HZq.out]; exact info_page) (by rw [HZq.out, HZ0.out]) HOq.out ?_))
          refine bodyPost_ret (v := .agg (pgCells q).toArray) (results_cell_row Try.results9 _ _ w.heap.size 27 _ (0, 0) _ rfl (setRow_heap _ _ _ _ _ _ HGR.out) HU.out rfl (by rw [HZq.out]; exact info_page)) rfl ⟨q, rfl, HQ.out.1, HQ.out.2.2.1, (by rw [HQ.out.2.1]; exact HLl.out.1), (by rw [HQ.out.2.1]; exact HLl.out.2), HQ.out.2.2.2, ?_, ?_⟩
          · exact HB.out.then_below (below_setRow (Below.refl _ _) HRw.out _)
          · exact HC.out.below (below_setRow (Below.refl _ _) (Nat.le_refl _) _) HCR.out
    · clear hl0 hl1
      have HZq := Lib.hid (size_pg ⟨id, l, (newPg 0).cells⟩ rfl)
      have HZ0 := Lib.hid (size_pg (newPg 0) rfl)
      have HOq := Lib.hid (oneCell_pg ⟨id, l, (newPg 0).cells⟩)
      have HGP : Hid (w4.heap[P]? = some (.cells (pgCells ⟨id, l, (newPg 0).cells⟩).toArray 27 (0, 0))) := HPW.out
      have HGR : Hid (w4.heap[w.heap.size]? = some (.cells (pgCells (newPg 0)).toArray 27 (0, 0))) := HRW.out
      go_wp2_with (first | (refine wpList_load_row rfl 27 _ rfl P rfl 27 _ (0, 0) _ HGP.out HU.out rfl (by rw [HZq.out]; exact info_page) ?_) | (refine wpList_store_row rfl 27 _ _ rfl w.heap.size (pgCells ⟨id, l, (newPg 0).cells⟩).toArray rfl rfl 27 (pgCells (newPg 0)).toArray HGR.out (by rw [HZq.out]; exact info_page) (by rw [HZq.out, HZ0.out]) HOq.out ?_))
      refine bodyPost_ret (v := .agg (pgCells ⟨id, l, (newPg 0).cells⟩).toArray) (results_cell_row Try.results9 _ _ w.heap.size 27 _ (0, 0) _ rfl (setRow_heap _ _ _ _ _ _ HGR.out) HU.out rfl (by rw [HZq.out]; exact info_page)) rfl ⟨⟨id, l, (newPg 0).cells⟩, rfl, rfl, rfl, HLl.out.1, HLl.out.2, cellsB_new _ _, ?_, ?_⟩
      · exact HBW.out.then_below (below_setRow (Below.refl _ _) HRw.out _)
      · exact HCW.out.below (below_setRow (Below.refl _ _) (Nat.le_refl _) _) HCR.out
end Go.Proofs.Ytbadfcnkpeohfaa
