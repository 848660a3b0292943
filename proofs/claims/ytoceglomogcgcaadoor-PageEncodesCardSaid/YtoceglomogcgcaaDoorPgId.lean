/- the walks of the program's New and Identify -/
import Derived.Test.YtoceglomogcgcaaDoorPgPlain
namespace Go.Proofs.YtoceglomogcgcaaDoor
open Go.RowKit

def idR (s : ByteArray) (id : Int) : Pg × Int :=
  if ¬ (0 ≤ id ∧ id < 64) then (newPg 0, 1) else if (decR s).2 = 7 then (newPg id, 0) else if (decR s).2 ≠ 0 then (newPg 0, (decR s).2) else if (decR s).1.id ≠ id then (newPg 0, 6) else ((decR s).1, 0)
def IdPost (s : ByteArray) (id : Int) (w : World) (e : Ending) (w' : World) : Prop := e = .returned (.tuple #[pgV (idR s id).1, .int .i64 (idR s id).2]) ∧ Below w.heap.size w w'
theorem idPost_mk {s : ByteArray} {id : Int} {w w' : World} {q : Pg} {n : Int} (h : idR s id = (q, n)) (hb : Below w.heap.size w w') : IdPost s id w (.returned (.tuple #[.agg (pgCells q).toArray, .int .i64 n])) w' := ⟨by rw [h]; rfl, hb⟩
/-- the ways in which bytes are read as a page -/
theorem decR_cases (s : ByteArray) : (∃ n, n ≠ 0 ∧ decR s = (newPg 0, n)) ∨ (decR s = (parseR s, 0) ∧ s.size = 256 ∧ s.extract 0 8 = s.extract 248 256 ∧ encR (parseR s) = (s, 0)) := by
  unfold decR
  by_cases h1 : s.size ≠ 256
  · rw [if_pos h1]; exact .inl ⟨2, by decide, rfl⟩
  · rw [if_neg h1]
    by_cases h2 : s = zeroS 256
    · rw [if_pos h2]; exact .inl ⟨7, by decide, rfl⟩
    · rw [if_neg h2]
      by_cases h3 : s.extract 0 8 ≠ s.extract 248 256
      · rw [if_pos h3]; exact .inl ⟨27, by decide, rfl⟩
      · rw [if_neg h3]
        by_cases h4 : wrap64 (leNum s 244 4) ≠ ((Crc.sum (s.extract 0 244).data.toList).toNat : Int)
        · rw [if_pos h4]; exact .inl ⟨3, by decide, rfl⟩
        · rw [if_neg h4]
          by_cases h5 : encR (parseR s) = (s, 0)
          · rw [if_pos h5]; exact .inr ⟨rfl, by simpa using h1, by simpa using h3, h5⟩
          · rw [if_neg h5]; exact .inl ⟨4, by decide, rfl⟩
theorem decR_len (s : ByteArray) : (decR s).1.cells.length = 16 := by
  rcases decR_cases s with ⟨n, _, h⟩ | ⟨h, _⟩
  · rw [h]; rfl
  · rw [h]; simp [parseR]
theorem decR_err (s : ByteArray) : (decR s).2 ≠ 0 → (decR s).1 = newPg 0 := by
  rcases decR_cases s with ⟨n, _, h⟩ | ⟨h, _⟩
  · rw [h]; exact fun _ => rfl
  · rw [h]; exact fun h => absurd rfl h
set_option maxHeartbeats 1000000 in
theorem new_page (id : Int) (w : World) : Calls Tryd.prog 19 #[.int .i64 id] w fun e w' => e = .returned (pgV (newPg id)) ∧ Below w.heap.size w w' := by
  have HO := Lib.hid (oneCell_new id)
  have HZ := Lib.hid (size_new id)
  have HZ0 := Lib.hid (size_new 0)
  unfold pgV
  have HG : Hid ((w.alloc (.cells (pgCells (newPg 0)).toArray 27)).heap[w.heap.size]? = some (.cells (pgCells (newPg 0)).toArray 27 (0, 0))) := heap_alloc_last w _
  go_enter Tryd.func19, Tryd.ntmps19
  go_wp2_with (first | (refine wpList_alloc_page rfl rfl ?_) | (refine wpList_build_new rfl _ id rfl rfl ?_) | (refine wpList_store_row rfl 27 _ _ rfl w.heap.size (pgCells (newPg id)).toArray rfl rfl 27 (pgCells (newPg 0)).toArray HG.out (by rw [HZ.out]; exact info_page) (by rw [HZ.out, HZ0.out]) HO.out ?_))
  obtain ⟨fs, hu⟩ := under_page
  refine bodyPost_ret (v := .agg (pgCells (newPg id)).toArray) (results_cell_row Tryd.results19 _ _ w.heap.size 27 _ (0, 0) _ rfl (setRow_heap _ _ _ _ _ _ HG.out) hu rfl (by rw [HZ.out]; exact info_page)) rfl ⟨rfl, ?_⟩
  exact below_setRow ((Below.refl _ _).alloc (Nat.le_refl _) _) (Nat.le_refl _) _
set_option maxHeartbeats 4000000 in
set_option maxRecDepth 20000 in
theorem identify_any (s : ByteArray) (id : Int) (w : World) (hs : s.size ≤ maxLen) (ht : TabAt w) :
    Calls Tryd.prog 27 #[.string s, .int .i64 id] w (IdPost s id w) := by
  obtain ⟨fs, hu⟩ := under_page
  have HU := Lib.hid hu
  clear hu
  have HSM := Lib.hid hs
  have HT := Lib.hid ht
  clear ht
  have HZ0 := Lib.hid (size_pg (newPg 0) rfl)
  have HO0 := Lib.hid (oneCell_pg (newPg 0))
  have HR0 : Hid ((w.alloc (.cells (pgCells (newPg 0)).toArray 27)).heap[w.heap.size]? = some (.cells (pgCells (newPg 0)).toArray 27 (0, 0))) := heap_alloc_last w _
  have HB0 : Hid (Below w.heap.size w (w.alloc (.cells (pgCells (newPg 0)).toArray 27))) := (Below.refl _ _).alloc (Nat.le_refl _) _
  clear hs
  by_cases hid : 0 ≤ id ∧ id < 64
  · have HI : Hid (0 ≤ id ∧ id < 64) := hid
    have h0 : (decide (0 ≤ id) && decide (id < 64)) = true := by simp; exact hid
    clear hid
    go_enter Tryd.func27, Tryd.ntmps27
    go_wp2_with (first | (refine wpList_alloc_page rfl rfl ?_))
    refine (validId_any _ _).mono ?_
    rintro e w1 ⟨rfl, rfl⟩
    rw [h0]
    clear h0
    go_wp2_with fail
    obtain ⟨q, n, hd⟩ : ∃ q n, decR s = (q, n) := ⟨_, _, rfl⟩
    have HDc : Hid (∀ w1 : World, TabAt w1 → Calls Tryd.prog 25 #[.string s] w1 fun e w' => e = .returned (.tuple #[.agg (pgCells q).toArray, .int .i64 n]) ∧ Below w1.heap.size w1 w') := fun w1 ht1 => by
      have := decode_any s w1 HSM.out ht1
      unfold DecPost at this
      rw [hd] at this
      exact this
    refine (HDc.out _ (HT.out.below HB0.out)).mono ?_
    rintro e w2 ⟨rfl, hb2⟩
    have HR2 : Hid (w2.heap[w.heap.size]? = some (.cells (pgCells (newPg 0)).toArray 27 (0, 0))) := (hb2.block _ (by simp)).trans HR0.out
    have HB2 := Lib.hid (HB0.out.trans (hb2.mono (by simp)))
    have HL2 : Hid (w.heap.size < w2.heap.size) := (Array.getElem?_eq_some_iff.1 HR2.out).1
    have hlen := decR_len s
    have HER := Lib.hid (decR_err s)
    have HDF : Hid (idR s id = if (decR s).2 = 7 then (newPg id, 0) else if (decR s).2 ≠ 0 then (newPg 0, (decR s).2) else if (decR s).1.id ≠ id then (newPg 0, 6) else ((decR s).1, 0)) := if_neg (by have := HI.out; omega)
    rw [hd] at hlen HER HDF
    simp only at hlen HER HDF
    have HZq := Lib.hid (size_pg q hlen)
    have HOq := Lib.hid (oneCell_pg q)
    have HDD := Lib.hid hd
    clear hd
    have HGa : Hid ((w2.alloc (.cells (pgCells (newPg 0)).toArray 27)).heap[w2.heap.size]? = some (.cells (pgCells (newPg 0)).toArray 27 (0, 0))) := heap_alloc_last w2 _
    have HG3 : Hid (PgIn ((w2.alloc (.cells (pgCells (newPg 0)).toArray 27)).setRow w2.heap.size (pgCells q).toArray) w2.heap.size q) := setRow_heap _ _ _ _ _ _ HGa.out
    have HR3 : Hid (((w2.alloc (.cells (pgCells (newPg 0)).toArray 27)).setRow w2.heap.size (pgCells q).toArray).heap[w.heap.size]? = some (.cells (pgCells (newPg 0)).toArray 27 (0, 0))) := (setRow_other _ _ _ _ (by have := HL2.out; omega)).trans ((Below.heap_alloc _ _ _ HL2.out).trans HR2.out)
    have HB3 : Hid (Below w.heap.size w ((w2.alloc (.cells (pgCells (newPg 0)).toArray 27)).setRow w2.heap.size (pgCells q).toArray)) := below_setRow (HB2.out.alloc HB2.out.size _) HB2.out.size _
    have c0 : ((w2.alloc (.cells (pgCells (newPg 0)).toArray 27)).setRow w2.heap.size (pgCells q).toArray).cell? ⟨w2.heap.size, 0, none⟩ = some (.int .i64 q.id) := HG3.out.cell 0
    have HG3' : Hid (((w2.alloc (.cells (pgCells (newPg 0)).toArray 27)).setRow w2.heap.size (pgCells q).toArray).heap[w2.heap.size]? = some (.cells (pgCells q).toArray 27 (0, 0))) := HG3.out
    clear hb2 hlen HR2 HB2 HR0 HB0
    by_cases h7 : n = 7
    · have hb7 : (n == 7) = true := by rw [h7]; rfl
      have HX : Hid (idR s id = (newPg id, 0)) := by show _ = _; rw [HDF.out, if_pos h7]
      have HZi := Lib.hid (size_pg (newPg id) rfl)
      have HOi := Lib.hid (oneCell_pg (newPg id))
      clear h7
      go_wp2_with (first | (refine wpList_alloc_page rfl rfl ?_) | (refine wpList_store_row rfl 27 _ _ rfl w2.heap.size (pgCells q).toArray rfl rfl 27 (pgCells (newPg 0)).toArray HGa.out (by rw [HZq.out]; exact info_page) (by rw [HZq.out, HZ0.out]) HOq.out ?_))
      refine (new_page id _).mono ?_
      rintro e w4 ⟨rfl, hb4⟩
      have HR4 : Hid (w4.heap[w.heap.size]? = some (.cells (pgCells (newPg 0)).toArray 27 (0, 0))) := (hb4.block _ (Array.getElem?_eq_some_iff.1 HR3.out).1).trans HR3.out
      have HB4 := Lib.hid (HB3.out.trans (hb4.mono HB3.out.size))
      have HPi : Hid (pgV (newPg id) = .agg (pgCells (newPg id)).toArray) := rfl
      rw [HPi.out]
      clear hb4
      go_wp2_with (first | (refine wpList_build_zero rfl rfl ?_) | (refine wpList_store_row rfl 27 _ _ rfl w.heap.size (pgCells (newPg id)).toArray rfl rfl 27 (pgCells (newPg 0)).toArray HR4.out (by rw [HZi.out]; exact info_page) (by rw [HZi.out, HZ0.out]) HOi.out ?_))
      refine bodyPost_ret (results_page_tmp Tryd.results27 _ _ w.heap.size _ _ rfl (setRow_heap _ _ _ _ _ _ HR4.out) HU.out (by rw [HZi.out]; exact info_page)) rfl ?_
      exact idPost_mk HX.out (below_setRow HB4.out (Nat.le_refl _) _)
    · have hb7 : (n == 7) = false := by rw [beq_eq_false_iff_ne]; exact h7
      by_cases h0 : n = 0
      · have hb0 : (n == 0) = true := by rw [h0]; rfl
        have hb0' : (n != 0) = false := by rw [h0]; rfl
        by_cases hi : q.id = id
        · have hbi : (q.id != id) = false := by rw [hi]; simp
          have HX : Hid (idR s id = (q, n)) := by show _ = _; rw [HDF.out, if_neg h7, if_neg (by rw [h0]; simp), if_neg (by rw [hi]; simp), h0]
          clear h7 hi
          subst h0
          go_wp2_with (first | (refine wpList_build_zero rfl rfl ?_) | (refine wpList_alloc_page rfl rfl ?_) | (refine wpList_store_row rfl 27 _ _ rfl w2.heap.size (pgCells q).toArray rfl rfl 27 (pgCells (newPg 0)).toArray HGa.out (by rw [HZq.out]; exact info_page) (by rw [HZq.out, HZ0.out]) HOq.out ?_) | (refine wpList_load_row rfl 27 _ rfl w2.heap.size rfl 27 _ (0, 0) _ HG3'.out HU.out rfl (by rw [HZq.out]; exact info_page) ?_) | (refine wpList_store_row rfl 27 _ _ rfl w.heap.size (pgCells (q)).toArray rfl rfl 27 (pgCells (newPg 0)).toArray HR3.out (by rw [HZq.out]; exact info_page) (by rw [HZq.out, HZ0.out]) HOq.out ?_))
          refine bodyPost_ret (results_page_tmp Tryd.results27 _ _ w.heap.size _ _ rfl (setRow_heap _ _ _ _ _ _ HR3.out) HU.out (by rw [HZq.out]; exact info_page)) rfl ?_
          exact idPost_mk HX.out (below_setRow HB3.out (Nat.le_refl _) _)
        · have hbi : (q.id != id) = true := by rw [bne_iff_ne]; exact hi
          have HX : Hid (idR s id = (newPg 0, 6)) := by show _ = _; rw [HDF.out, if_neg h7, if_neg (by rw [h0]; simp), if_pos hi]
          clear h7 hi
          subst h0
          go_wp2_with (first | (refine wpList_build_zero rfl rfl ?_) | (refine wpList_alloc_page rfl rfl ?_) | (refine wpList_store_row rfl 27 _ _ rfl w2.heap.size (pgCells q).toArray rfl rfl 27 (pgCells (newPg 0)).toArray HGa.out (by rw [HZq.out]; exact info_page) (by rw [HZq.out, HZ0.out]) HOq.out ?_) | (refine wpList_load_row rfl 27 _ rfl w2.heap.size rfl 27 _ (0, 0) _ HG3'.out HU.out rfl (by rw [HZq.out]; exact info_page) ?_) | (refine wpList_store_row rfl 27 _ _ rfl w.heap.size (pgCells (newPg 0)).toArray rfl rfl 27 (pgCells (newPg 0)).toArray HR3.out (by rw [HZ0.out]; exact info_page) (by rw [HZ0.out]) HO0.out ?_))
          refine bodyPost_ret (results_page_tmp Tryd.results27 _ _ w.heap.size _ _ rfl (setRow_heap _ _ _ _ _ _ HR3.out) HU.out (by rw [HZ0.out]; exact info_page)) rfl ?_
          exact idPost_mk HX.out (below_setRow HB3.out (Nat.le_refl _) _)
      · have hb0 : (n == 0) = false := by rw [beq_eq_false_iff_ne]; exact h0
        have hb0' : (n != 0) = true := by rw [bne_iff_ne]; exact h0
        have HX : Hid (idR s id = (newPg 0, n)) := by show _ = _; rw [HDF.out, if_neg h7, if_pos h0]
        clear h7 h0
        go_wp2_with (first | (refine wpList_build_zero rfl rfl ?_) | (refine wpList_alloc_page rfl rfl ?_) | (refine wpList_store_row rfl 27 _ _ rfl w2.heap.size (pgCells q).toArray rfl rfl 27 (pgCells (newPg 0)).toArray HGa.out (by rw [HZq.out]; exact info_page) (by rw [HZq.out, HZ0.out]) HOq.out ?_) | (refine wpList_load_row rfl 27 _ rfl w2.heap.size rfl 27 _ (0, 0) _ HG3'.out HU.out rfl (by rw [HZq.out]; exact info_page) ?_) | (refine wpList_store_row rfl 27 _ _ rfl w.heap.size (pgCells (newPg 0)).toArray rfl rfl 27 (pgCells (newPg 0)).toArray HR3.out (by rw [HZ0.out]; exact info_page) (by rw [HZ0.out]) HO0.out ?_))
        refine bodyPost_ret (results_page_tmp Tryd.results27 _ _ w.heap.size _ _ rfl (setRow_heap _ _ _ _ _ _ HR3.out) HU.out (by rw [HZ0.out]; exact info_page)) rfl ?_
        exact idPost_mk HX.out (below_setRow HB3.out (Nat.le_refl _) _)
  · have HX : Hid (idR s id = (newPg 0, 1)) := if_pos hid
    have h0 : (decide (0 ≤ id) && decide (id < 64)) = false := by rw [Bool.eq_false_iff]; simp only [ne_eq, Bool.and_eq_true, decide_eq_true_eq]; exact hid
    clear hid
    go_enter Tryd.func27, Tryd.ntmps27
    go_wp2_with (first | (refine wpList_alloc_page rfl rfl ?_))
    refine (validId_any _ _).mono ?_
    rintro e w1 ⟨rfl, rfl⟩
    rw [h0]
    clear h0
    go_wp2_with (first | (refine wpList_build_zero rfl rfl ?_) | (refine wpList_store_row rfl 27 _ _ rfl w.heap.size (pgCells (newPg 0)).toArray rfl rfl 27 (pgCells (newPg 0)).toArray HR0.out (by rw [HZ0.out]; exact info_page) (by rw [HZ0.out]) HO0.out ?_))
    refine bodyPost_ret (results_page_tmp Tryd.results27 _ _ w.heap.size _ _ rfl (setRow_heap _ _ _ _ _ _ HR0.out) HU.out (by rw [HZ0.out]; exact info_page)) rfl ?_
    exact idPost_mk HX.out (below_setRow HB0.out (Nat.le_refl _) _)
end Go.Proofs.YtoceglomogcgcaaDoor
