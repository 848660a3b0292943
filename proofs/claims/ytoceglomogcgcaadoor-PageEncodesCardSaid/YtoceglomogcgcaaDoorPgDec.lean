/- the walks of the program's parseCell, parse, Decode and Identify -/
import Derived.Test.YtoceglomogcgcaaDoorPgEnc
import Derived.Test.YtoceglomogcgcaaDoorPgRep
import Derived.Test.YtoceglomogcgcaaDoorDrPage
namespace Go.Proofs.YtoceglomogcgcaaDoor
open Go.RowKit

/-- the length byte of the cell at a place -/
def lenAt (s : ByteArray) (a : Nat) : Nat := (s.data.toList.getD a 0).toNat
/-- the cell whose bytes begin at a place -/
def clAt (s : ByteArray) (a : Nat) : Cl := if lenAt s a = 255 then emptyCl else ⟨true, s.extract (a + 1) (a + 1 + min (lenAt s a) 12)⟩
theorem lenAt_lt (s : ByteArray) (a : Nat) : lenAt s a < 256 := (s.data.toList.getD a 0).toNat_lt
set_option maxHeartbeats 400000 in
theorem parseCell_any (t : ByteArray) (w : World) (ht : t.size = 13) :
    Calls Tryd.prog 62 #[.string t] w fun e w' => e = .returned (clV (clAt t 0)) ∧ Below w.heap.size w w' := by
  have h0 : 0 < t.size := by omega
  have hb : t[0].toNat = lenAt t 0 := by unfold lenAt; rw [getD_at t 0 h0]
  have hb8 := lenAt_lt t 0
  have hwr : IntKind.i64.wrap (t[0].toNat : Int) = ((lenAt t 0 : Nat) : Int) := by rw [hb]; exact IntWalk.i64_in _ (by omega)
  have hG : Hid ((w.alloc (.cells #[.bool false, .string ⟨#[]⟩] 24)).heap[w.heap.size]? = some (.cells #[.bool false, .string ⟨#[]⟩] 24 (0, 0))) := heap_alloc_last w _
  obtain ⟨fs, hu⟩ := under_cell
  have HU := Lib.hid hu
  clear hu
  by_cases h255 : lenAt t 0 = 255
  · have hX : Hid (clV (clAt t 0) = .agg #[.bool false, .string ⟨#[]⟩]) := by show _ = _; unfold clAt; rw [if_pos h255]; rfl
    rw [h255] at hwr
    clear h255 hb8 hb
    go_enter Tryd.func62, Tryd.ntmps62
    go_wp2_with (refine wpList_store_row rfl 24 _ _ rfl w.heap.size #[.bool false, .string ⟨#[]⟩] rfl rfl 24 #[.bool false, .string ⟨#[]⟩] hG.out info_cell rfl (oneCell_cell _ _) ?_)
    refine bodyPost_ret (v := .agg #[.bool false, .string ⟨#[]⟩]) (results_cell_row Tryd.results62 _ _ w.heap.size 24 _ (0, 0) _ rfl (setRow_heap _ _ _ _ _ _ hG.out) HU.out rfl info_cell) rfl ⟨ret_val hX.out.symm, ?_⟩
    exact below_setRow ((Below.refl _ _).alloc (Nat.le_refl _) _) (Nat.le_refl _) _
  · have hX : Hid (clV (clAt t 0) = .agg #[.bool true, .string (t.extract 1 (1 + min (lenAt t 0) 12))]) := by show _ = _; unfold clAt; rw [if_neg h255, Nat.zero_add]; rfl
    have hne : (((lenAt t 0 : Nat) : Int) == 255) = false := by rw [beq_eq_false_iff_ne]; omega
    have hex : Hid ((t.extract 1 13).extract 0 (min (lenAt t 0) 12) = t.extract 1 (1 + min (lenAt t 0) 12)) := by
      show _ = _
      rw [ByteArray.extract_extract]
      congr 1
      omega
    have ht' : (t.size : Int) = 13 := by omega
    generalize lenAt t 0 = n at *
    go_enter Tryd.func62, Tryd.ntmps62
    go_wp2_with fail
    have hmin : ((min (n : Int) 12).toNat) = min n 12 := by omega
    rw [hmin, hex.out]
    refine bodyPost_ret (v := .agg #[.bool true, .string (t.extract 1 (1 + min n 12))]) (results_cell_row Tryd.results62 _ _ w.heap.size 24 _ (0, 0) _ rfl (heap_alloc_last w _) HU.out rfl info_cell) rfl ⟨ret_val hX.out.symm, ?_⟩
    exact (Below.refl _ _).alloc (Nat.le_refl _) _

theorem lenAt_part (s : ByteArray) (a b : Nat) (hb : a + b ≤ s.size) (h0 : 0 < b) : lenAt (s.extract a (a + b)) 0 = lenAt s a := by
  unfold lenAt
  congr 1
  rw [getD_at (s.extract a (a + b)) 0 (by rw [ByteArray.size_extract]; omega), getD_at s a (by omega)]
  exact ByteArray.getElem_extract ..
theorem clAt_part (s : ByteArray) (a : Nat) (hb : a + 13 ≤ s.size) : clAt (s.extract a (a + 13)) 0 = clAt s a := by
  unfold clAt
  rw [lenAt_part s a 13 hb (by omega), ByteArray.extract_extract]
  by_cases h : lenAt s a = 255
  · rw [if_pos h, if_pos h]
  · rw [if_neg h, if_neg h]
    congr 2 <;> omega
/-- what the bytes of a page say -/
def parseR (s : ByteArray) : Pg := ⟨wrap64 (leNum s 8 4), wrap64 (leNum s 0 8), (List.range 16).map fun j => clAt s (12 + j * 13)⟩
def partP (s : ByteArray) (k : Nat) : Pg := ⟨wrap64 (leNum s 8 4), wrap64 (leNum s 0 8), ((List.range k).map fun j => clAt s (12 + j * 13)) ++ List.replicate (16 - k) emptyCl⟩
theorem partP_length (s : ByteArray) (k : Nat) (h : k ≤ 16) : (partP s k).cells.length = 16 := by
  unfold partP; simp; omega
theorem partP_step (s : ByteArray) (k : Nat) (h : k < 16) : (⟨(partP s k).id, (partP s k).lsn, (partP s k).cells.set k (clAt s (12 + k * 13))⟩ : Pg) = partP s (k + 1) := by
  unfold partP
  simp only [Pg.mk.injEq, true_and]
  rw [show 16 - k = (16 - (k + 1)) + 1 from by omega, List.replicate_succ, List.set_append_right _ _ (by simp), List.range_succ, List.map_append]
  simp
theorem partP_full (s : ByteArray) : partP s 16 = parseR s := by unfold partP parseR; simp
theorem get_in (s : ByteArray) (a z : Nat) (w : World) (hs : s.size ≤ maxLen) (h1 : 1 ≤ z) (h8 : z ≤ 8) (hat : a + z ≤ s.size) :
    Calls Tryd.prog 46 #[.string s, .int .i64 a, .int .i64 z] w fun e w' => e = .returned (.tuple #[.int .i64 (wrap64 (leNum s a z)), .int .i64 0]) ∧ w = w' := get_nat s a z w hs h1 h8 hat
set_option maxHeartbeats 4000000 in
theorem parse_any (s : ByteArray) (w : World) (hs : s.size = 256) :
    Calls Tryd.prog 47 #[.string s] w fun e w' => e = .returned (pgV (parseR s)) ∧ Below w.heap.size w w' := by
  have HS : Hid (s.size = 256) := hs
  have hsi : (s.size : Int) = 256 := by omega
  have HM : Hid (s.size ≤ maxLen) := by show _ ≤ _; unfold maxLen; omega
  obtain ⟨fs, hu⟩ := under_page
  have HU := Lib.hid hu
  clear hu hs
  have HP0 : Hid (PgIn ((w.alloc (.cells (pgCells (newPg 0)).toArray 27)).alloc (.cells (pgCells (newPg 0)).toArray 27)) (w.heap.size + 1) (newPg 0)) := by
    have := heap_alloc_last (w.alloc (.cells (pgCells (newPg 0)).toArray 27)) (.cells (pgCells (newPg 0)).toArray 27)
    rw [World.size_alloc] at this
    exact this
  have HR0 : Hid (PgIn ((w.alloc (.cells (pgCells (newPg 0)).toArray 27)).alloc (.cells (pgCells (newPg 0)).toArray 27)) w.heap.size (newPg 0)) := (Below.heap_alloc _ _ _ (by simp)).trans (heap_alloc_last w _)
  have HB0 : Hid (Below w.heap.size w ((w.alloc (.cells (pgCells (newPg 0)).toArray 27)).alloc (.cells (pgCells (newPg 0)).toArray 27))) := ((Below.refl _ _).alloc (Nat.le_refl _) _).alloc (by simp) _
  go_enter Tryd.func47, Tryd.ntmps47
  go_wp2_with (first | (refine wpList_alloc_page rfl rfl ?_))
  generalize ((w.alloc (.cells (pgCells (newPg 0)).toArray 27)).alloc (.cells (pgCells (newPg 0)).toArray 27)) = w1 at *
  refine (get_in s 0 8 _ HM.out (by omega) (by omega) (by rw [HS.out]; omega)).mono ?_
  rintro e w1' ⟨rfl, rfl⟩
  have a1 : w1.cell? ⟨w.heap.size + 1, 1, none⟩ = some (.int .i64 0) := HP0.out.cell 1
  have f1 := HP0.out.frozen 1
  have HP1 := Lib.hid (HP0.out.setLsn (wrap64 (leNum s 0 8)))
  have HR1 := Lib.hid (HR0.out.other (D := w.heap.size + 1) 1 (.int .i64 (wrap64 (leNum s 0 8))) (by omega))
  have HB1 := Lib.hid (HB0.out.setCell (p := ⟨w.heap.size + 1, 1, none⟩) (by simp) (.int .i64 (wrap64 (leNum s 0 8))))
  go_wp2_with fail
  clear a1 f1 HP0 HR0 HB0
  generalize w1.setCell ⟨w.heap.size + 1, 1, none⟩ (.int .i64 (wrap64 (leNum s 0 8))) = w2 at *
  refine (get_in s 8 4 _ HM.out (by omega) (by omega) (by rw [HS.out]; omega)).mono ?_
  rintro e w2' ⟨rfl, rfl⟩
  have a1 : w2.cell? ⟨w.heap.size + 1, 0, none⟩ = some (.int .i64 0) := HP1.out.cell 0
  have f1 := HP1.out.frozen 0
  have HP2 : Hid (PgIn (w2.setCell ⟨w.heap.size + 1, 0, none⟩ (.int .i64 (wrap64 (leNum s 8 4)))) (w.heap.size + 1) (partP s 0)) := (heap_setCell_same w2 _ 0 _ _ _ HP1.out).trans rfl
  have HR2 := Lib.hid (HR1.out.other (D := w.heap.size + 1) 0 (.int .i64 (wrap64 (leNum s 8 4))) (by omega))
  have HB2 := Lib.hid (HB1.out.setCell (p := ⟨w.heap.size + 1, 0, none⟩) (by simp) (.int .i64 (wrap64 (leNum s 8 4))))
  go_wp2_with fail
  clear a1 f1 HP1 HR1 HB1
  generalize w2.setCell ⟨w.heap.size + 1, 0, none⟩ (.int .i64 (wrap64 (leNum s 8 4))) = w3 at *
  have HPw : Hid (w.heap.size < w.heap.size + 1) := by show _ < _; omega
  generalize w.heap.size + 1 = P at *
  go_loopw [18] (fun i wr => ∃ k : Nat, k ≤ 16 ∧ i = .int .i64 k ∧ PgIn wr P (partP s k) ∧ PgIn wr w.heap.size (newPg 0) ∧ Below w.heap.size w wr) (fun i _ => 16 - (intOf i).toNat)
  case atStart => exact ⟨0, by omega, rfl, HP2.out, HR2.out, HB2.out⟩
  case round =>
    obtain ⟨k, hk, rfl, hp, hr, hb⟩ := hrel
    have HP := Lib.hid hp
    have HR := Lib.hid hr
    have HB := Lib.hid hb
    clear hp hr hb
    by_cases hlt : k < 16
    · have HQ : Hid (clAt (s.extract (12 + k * 13) (12 + k * 13 + 13)) 0 = clAt s (12 + k * 13)) := clAt_part s _ (by rw [HS.out]; omega)
      have HSt := Lib.hid (partP_step s k hlt)
      have hT : (s.extract (12 + k * 13) (12 + k * 13 + 13)).size = 13 := by rw [ByteArray.size_extract, HS.out]; omega
      have HT := Lib.hid hT
      have HLen := Lib.hid (partP_length s k hk)
      have hkl : k < (partP s k).cells.length := by rw [HLen.out]; exact hlt
      have HKL := Lib.hid hkl
      clear hT
      go_wp2_with fail
      refine (parseCell_any _ _ HT.out).mono ?_
      rintro e w4 ⟨rfl, hb4⟩
      rw [HQ.out]
      have HP4 : Hid (PgIn w4 P (partP s k)) := (hb4.block _ HP.out.lt).trans HP.out
      have HR4 : Hid (PgIn w4 w.heap.size (newPg 0)) := (hb4.block _ HR.out.lt).trans HR.out
      have HB4 := Lib.hid (HB.out.trans (hb4.mono HB.out.size))
      have c0 := (HP4.out.get hkl).1
      have c1 := (HP4.out.get hkl).2
      have f0 := HP4.out.frozen (2 + k * 2)
      have f1 := HP4.out.frozen (2 + k * 2 + 1)
      generalize (partP s k).cells[k] = old at c0 c1
      generalize clAt s (12 + k * 13) = c at *
      obtain ⟨st, d⟩ := c
      unfold clV clCells
      clear hb4 hkl
      go_wp2_with fail
      go_roundw
      case rel => exact ⟨k + 1, by omega, by go_num, by rw [← HSt.out]; exact HP4.out.setCell HKL.out ⟨st, d⟩, (HR4.out.other _ _ (by have := HPw.out; omega)).other _ _ (by have := HPw.out; omega), (HB4.out.setCell (p := ⟨P, _, none⟩) (by have := HPw.out; simp; omega) _).setCell (p := ⟨P, _, none⟩) (by have := HPw.out; simp; omega) _⟩
      case measure => simp [intOf]; omega
    · obtain rfl : k = 16 := by omega
      rw [partP_full] at HP
      have HL16 : Hid ((parseR s).cells.length = 16) := by show _ = _; simp [parseR]
      have HZq := Lib.hid (size_pg (parseR s) HL16.out)
      have HZ0 := Lib.hid (size_pg (newPg 0) rfl)
      have HOq := Lib.hid (oneCell_pg (parseR s))
      have HGP : Hid (wr.heap[P]? = some (.cells (pgCells (parseR s)).toArray 27 (0, 0))) := HP.out
      have HGR : Hid (wr.heap[w.heap.size]? = some (.cells (pgCells (newPg 0)).toArray 27 (0, 0))) := HR.out
      generalize hqe : parseR s = q at *
      have HQE := Lib.hid hqe
      clear hqe
      go_wp2_with (first | (refine wpList_load_row rfl 27 _ rfl P rfl 27 _ (0, 0) _ HGP.out HU.out rfl (by rw [HZq.out]; exact info_page) ?_) | (refine wpList_store_row rfl 27 _ _ rfl w.heap.size (pgCells q).toArray rfl rfl 27 (pgCells (newPg 0)).toArray HGR.out (by rw [HZq.out]; exact info_page) (by rw [HZq.out, HZ0.out]) HOq.out ?_))
      refine bodyPost_ret (v := .agg (pgCells q).toArray) (results_cell_row Tryd.results47 _ _ w.heap.size 27 _ (0, 0) _ rfl (setRow_heap _ _ _ _ _ _ HGR.out) HU.out rfl (by rw [HZq.out]; exact info_page)) rfl ⟨ret_val (by rw [HQE.out]; rfl), ?_⟩
      exact below_setRow HB.out (Nat.le_refl _) _
end Go.Proofs.YtoceglomogcgcaaDoor
