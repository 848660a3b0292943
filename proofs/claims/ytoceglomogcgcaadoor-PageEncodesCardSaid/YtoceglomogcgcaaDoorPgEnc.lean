/- the walks of the program's writeCells and Encode -/
import Derived.Test.YtoceglomogcgcaaDoorPgBuf
import Derived.Test.YtoceglomogcgcaaDoorCdSum
namespace Go.Proofs.YtoceglomogcgcaaDoor
open Go.RowKit

theorem cellsL_take (l : List Cl) (k : Nat) (h : k < l.length) : cellsL (l.take (k + 1)) = cellsL (l.take k) ++ clL l[k] := by
  rw [List.take_succ_eq_append_getElem h]
  unfold cellsL
  rw [List.flatMap_append]
  simp
set_option maxHeartbeats 2000000 in
theorem writeCells_any (P D : Nat) (L : List UInt8) (p : Pg) (w : World) (h : BufAt w P D L) (hl : p.cells.length = 16) (hs : ∀ c ∈ p.cells, c.data.size ≤ 12) (hr : L.length + 208 ≤ 256) :
    Calls Tryd.prog 35 #[pgV p, .func (.func 36) #[.pointer (some ⟨P, 0, none⟩)] #[]] w fun e w' => e = .returned (.tuple #[]) ∧ BufAt w' P D (L ++ cellsL p.cells) ∧ Apart P D w w' := by
  have HL := Lib.hid hl
  have HS := Lib.hid hs
  have HH := Lib.hid h
  have HRR := Lib.hid hr
  have HG : Hid ((w.alloc (.cells (pgCells p).toArray 27)).heap[w.heap.size]? = some (.cells (pgCells p).toArray 27 (0, 0))) := heap_alloc_last w _
  have HR := Lib.hid (rangeAt_page HG.out)
  have HRZ : Hid ((rowCells p.cells).length = 32) := by show _ = _; rw [rowCells_length, hl]
  have HPt : Hid (∀ k (h : k < p.cells.length), (rowCells p.cells).toArray.extract (k * 2) (k * 2 + 2) = #[.bool p.cells[k].set, .string p.cells[k].data]) := fun k h => rowCells_part p.cells k h
  clear hl hs h HG hr
  unfold pgV
  generalize (pgCells p).toArray = C at *
  go_enter Tryd.func35, Tryd.ntmps35
  go_wp2_with (first | (refine wpList_load_mid rfl 25 _ rfl w.heap.size 2 rfl (rowCells p.cells) _ HR.out under_cells rfl (by rw [HRZ.out]; exact info_cells) ?_))
  clear HR HRZ
  generalize (rowCells p.cells).toArray = R at *
  go_loopw [8] (fun i wr => ∃ k : Nat, k ≤ 16 ∧ i = .int .i64 k ∧ BufAt wr P D (L ++ cellsL (p.cells.take k)) ∧ Apart P D w wr) (fun i _ => 16 - (intOf i).toNat)
  case atStart => exact ⟨0, by omega, rfl, by simpa [cellsL] using HH.out.near ((Below.refl _ _).alloc (Nat.le_refl _) _), (Apart.refl _ _ _).alloc _⟩
  case round =>
    obtain ⟨k, hk, rfl, hat, hap⟩ := hrel
    have HA := Lib.hid hat
    have HP := Lib.hid hap
    clear hat hap
    by_cases hlt : k < 16
    · have hkl : k < p.cells.length := by rw [HL.out]; exact hlt
      have HE := Lib.hid (HPt.out k hkl)
      have hlen : (L ++ cellsL (p.cells.take k)).length + 13 ≤ 256 := by
        rw [List.length_append, cellsL_length _ (fun c hc => HS.out c (List.mem_of_mem_take hc)), List.length_take, HL.out]
        have := HRR.out; omega
      have HC : Hid (∀ cc : Cl, cc = p.cells[k] → ∀ o : Obj, Calls Tryd.prog 36 #[.pointer (some ⟨P, 0, none⟩), .agg #[.bool cc.set, .string cc.data]] (wr.alloc o) fun e w' => e = .returned (.tuple #[]) ∧ BufAt w' P D (L ++ cellsL (p.cells.take (k + 1))) ∧ Apart P D w w') := by
        rintro cc rfl o
        refine (addCell_any P D _ p.cells[k].set p.cells[k].data (wr.alloc o) (HA.out.near ((Below.refl _ _).alloc (Nat.le_refl _) _)) (HS.out _ (List.getElem_mem hkl)) hlen).mono ?_
        rintro e w' ⟨rfl, h1, h2⟩
        refine ⟨rfl, ?_, (HP.out.alloc _).trans h2⟩
        rw [cellsL_take _ _ hkl, ← List.append_assoc]
        exact h1
      have HLT : Hid (k < 16) := hlt
      have HCC : Hid (∃ cc : Cl, cc = p.cells[k]) := ⟨_, rfl⟩
      obtain ⟨cc, hcc⟩ := HCC.out
      have HC2 := Lib.hid (HC.out cc hcc)
      rw [← hcc] at HE
      clear hlen HC HCC hcc
      obtain ⟨st, d⟩ := cc
      simp only at HE
      go_wp2_with (first | (refine wpList_index_cells rfl _ _ rfl R rfl k rfl HLT.out st d HE.out ?_) | (go_at_call 36; refine (HC2.out _).mono ?_; rintro e w2 ⟨rfl, h2, ha2⟩; have HZ : Hid _ := And.intro h2 ha2; clear h2 ha2))
      go_roundw
      case rel => exact ⟨k + 1, by omega, by go_num, HZ.out.1, HZ.out.2⟩
      case measure => simp [intOf]; omega
    · obtain rfl : k = 16 := by omega
      have hfull : p.cells.take 16 = p.cells := List.take_of_length_le (by rw [HL.out]; omega)
      rw [hfull] at HA
      clear hfull
      go_wp2_with fail
      go_end0
      exact ⟨rfl, HA.out, HP.out⟩
theorem buf_conv {w : World} {P D : Nat} {L : List UInt8} (h : BufAt w P D L) :
    Sem.run Tryd.prog (convert 22 9 (.slice (some ⟨D, 0, none⟩) L.length 256)) w = .ok (.string (ofL L)) w := by
  refine run_convert_bytes_back (P := Tryd.prog) w 22 9 5 ⟨D, 0, none⟩ 256 L Tryd.underlying22 Tryd.underlying5 Tryd.underlying9 (fun j hj => ?_)
  rw [Addr.add_mid, Nat.zero_add, cell_of_row w D j _ _ _ h.row, List.getElem?_toArray]
  unfold bufCells
  rw [List.getElem?_append_left (by simpa using hj), List.getElem?_map, List.getElem?_eq_getElem hj]
  rfl
theorem made_buf : madeCells #[.int .u8 0] 256 = (bufCells []).toArray := by
  apply Array.toList_inj.1
  rw [toList_madeCells_one]
  rfl
theorem make_buf (w : World) : Sem.run Tryd.prog (Instr.makeSlice 22 (.int .i64 0) (.int .i64 256)) w = .ok (.slice (some ⟨w.heap.size, 0, none⟩) 0 256) (w.alloc (.cells (bufCells []).toArray 5)) := by
  have := run_make_room (P := Tryd.prog) 22 5 (.int .u8 0) 1 Tryd.underlying22 info_byte rfl .i64 .i64 256 (by omega) (by omega) w
  rw [made_buf] at this
  exact this
/-- a page's block stays while a builder works -/
structure EncAt (w0 : World) (C : Array Value) (w : World) (P D : Nat) (L : List UInt8) : Prop where
  buf : BufAt w P D L
  page : w.heap[w0.heap.size]? = some (.cells C 27 (0, 0))
  old : Below w0.heap.size w0 w
  nP : w0.heap.size < P
  nD : w0.heap.size < D
theorem EncAt.go {w0 w w' : World} {C : Array Value} {P D : Nat} {L M : List UInt8} (h : EncAt w0 C w P D L) (hb : BufAt w' P D M) (ha : Apart P D w w') : EncAt w0 C w' P D M :=
  ⟨hb, (ha.block _ (Array.getElem?_eq_some_iff.1 h.page).1 (by have := h.nP; omega) (by have := h.nD; omega)).trans h.page, h.old.trans (ha.below (by have := h.nP; omega) (by have := h.nD; omega) h.old.size), h.nP, h.nD⟩
theorem EncAt.cell {w0 w : World} {C : Array Value} {P D : Nat} {L : List UInt8} (h : EncAt w0 C w P D L) (i : Nat) : w.cell? ⟨w0.heap.size, i, none⟩ = C[i]? := cell_of_row w _ i _ _ _ h.page
set_option maxHeartbeats 4000000 in
theorem encode_any (p : Pg) (w : World) (hl : p.cells.length = 16) (hs : ∀ c ∈ p.cells, c.data.size ≤ maxLen) (ht : TabAt w) :
    Calls Tryd.prog 15 #[pgV p] w fun e w' => e = .returned (.tuple #[.string (encR p).1, .int .i64 (encR p).2]) ∧ Below w.heap.size w w' := by
  have HC : Hid (∀ w' : World, Calls Tryd.prog 33 #[.agg (pgCells p).toArray] w' fun e w'' => e = .returned (.int .i64 (checkR p)) ∧ Below w'.heap.size w' w'') := fun w' => check_any p w' hl hs
  have HWr : Hid (∀ (P D : Nat) (L : List UInt8) (w : World), BufAt w P D L → (∀ c ∈ p.cells, c.data.size ≤ 12) → L.length + 208 ≤ 256 → Calls Tryd.prog 35 #[.agg (pgCells p).toArray, .func (.func 36) #[.pointer (some ⟨P, 0, none⟩)] #[]] w fun e w' => e = .returned (.tuple #[]) ∧ BufAt w' P D (L ++ cellsL p.cells) ∧ Apart P D w w') := fun P D L w h h12 hr => writeCells_any P D L p w h hl h12 hr
  have HZ : Hid ((pgCells p).toArray.size = 34) := by show _ = _; rw [List.size_toArray, pgCells_length, hl]
  have HT := Lib.hid ht
  have HL := Lib.hid hl
  have E0 : Hid ((pgCells p).toArray[0]? = some (.int .i64 p.id)) := rfl
  have E1 : Hid ((pgCells p).toArray[1]? = some (.int .i64 p.lsn)) := rfl
  clear hl hs ht
  unfold pgV
  generalize (pgCells p).toArray = C at *
  have HG1 : Hid ((w.alloc (.cells C 27)).heap[w.heap.size]? = some (.cells C 27 (0, 0))) := heap_alloc_last w _
  have HBw : Hid (Below w.heap.size w (w.alloc (.cells C 27))) := (Below.refl _ _).alloc (Nat.le_refl _) _
  obtain ⟨fs, hu⟩ := under_page
  have HU := Lib.hid hu
  clear hu
  go_enter Tryd.func15, Tryd.ntmps15
  go_wp2_with (refine wpList_load_row rfl 27 _ rfl w.heap.size rfl 27 C (0, 0) _ HG1.out HU.out rfl (by rw [HZ.out]; exact info_page) ?_)
  refine (HC.out _).mono ?_
  rintro e w2 ⟨rfl, hb1⟩
  have HG2 : Hid (w2.heap[w.heap.size]? = some (.cells C 27 (0, 0))) := (hb1.block _ (by simp)).trans HG1.out
  have HB2 : Hid (Below w.heap.size w w2) := HBw.out.trans (hb1.mono (by simp))
  have HSZ2 : Hid (w.heap.size < w2.heap.size) := by show _ < _; have := hb1.size; rw [World.size_alloc] at this; omega
  clear hb1 HC
  by_cases hc : checkR p = 0
  · have HSm := Lib.hid (small_of_check hc)
    have HE : Hid (encR p = (ofL (encL p), 0)) := if_pos hc
    have HA0 : Hid (EncAt w C ((w2.alloc (.cells (bufCells []).toArray 5)).alloc (.cells #[.slice (some ⟨w2.heap.size, 0, none⟩) 0 256] 61)) (w2.heap.size + 1) w2.heap.size []) := by
      refine ⟨⟨?_, ?_, by omega, by simp⟩, ?_, (HB2.out.alloc HB2.out.size _).alloc (by have := HB2.out.size; simp; omega) _, by have := HSZ2.out; omega, HSZ2.out⟩
      · have := heap_alloc_last (w2.alloc (.cells (bufCells []).toArray 5)) (.cells #[.slice (some ⟨w2.heap.size, 0, none⟩) 0 256] 61)
        rw [World.size_alloc] at this
        exact this
      · rw [Below.heap_alloc _ _ _ (by simp)]
        exact heap_alloc_last _ _
      · rw [Below.heap_alloc _ _ _ (by have := HSZ2.out; simp; omega), Below.heap_alloc _ _ _ HSZ2.out]
        exact HG2.out
    have hmk := make_buf w2
    have c1 : ∀ o1 o2, ((w2.alloc o1).alloc o2).cell? ⟨w.heap.size, 1, none⟩ = some (.int .i64 p.lsn) := fun o1 o2 => by
      refine (cell_of_row _ _ 1 C 27 (0, 0) ?_).trans E1.out
      rw [Below.heap_alloc _ _ _ (by have := HSZ2.out; simp; omega), Below.heap_alloc _ _ _ HSZ2.out]
      exact HG2.out
    rw [hc]
    clear hc
    go_wp2_with fail
    refine (number_any _ _ _ p.lsn 8 _ HA0.out.buf (by omega) (by omega) (by simp)).mono ?_
    rintro e w3 ⟨rfl, hb3, ha3⟩
    have HA3 := Lib.hid (HA0.out.go hb3 ha3)
    generalize w2.heap.size + 1 = P at *
    generalize w2.heap.size = D at *
    have d0 : w3.cell? ⟨w.heap.size, 0, none⟩ = some (.int .i64 p.id) := (HA3.out.cell 0).trans E0.out
    clear hb3 ha3 c1 hmk HA0
    go_wp2_with fail
    refine (number_any _ _ _ p.id 4 _ HA3.out.buf (by omega) (by omega) (by simp [leL_length])).mono ?_
    rintro e w4 ⟨rfl, hb4, ha4⟩
    have HA4 := Lib.hid (HA3.out.go hb4 ha4)
    clear hb4 ha4 d0 HA3
    have HE4 : Hid ([] ++ leL p.lsn 8 ++ leL p.id 4 = headL p) := rfl
    rw [HE4.out] at HA4
    go_wp2_with (refine wpList_load_row rfl 27 _ rfl w.heap.size rfl 27 C (0, 0) _ HA4.out.page HU.out rfl (by rw [HZ.out]; exact info_page) ?_)
    refine (HWr.out P D _ _ HA4.out.buf HSm.out (by rw [headL_length]; omega)).mono ?_
    rintro e w5 ⟨rfl, hb5, ha5⟩
    have HA5 := Lib.hid (HA4.out.go hb5 ha5)
    clear hb5 ha5 HA4
    have hl5 : (headL p ++ cellsL p.cells).length = 220 := by rw [List.length_append, headL_length, cellsL_length _ HSm.out, HL.out]
    have HF := fill_any P D _ 24 _ HA5.out.buf (by omega)
    rw [hl5] at HF
    have HF5 := Lib.hid HF
    clear hl5 HF
    go_wp2_with fail
    refine HF5.out.mono ?_
    rintro e w6 ⟨rfl, hb6, ha6⟩
    have HA6 : Hid (EncAt w C w6 P D (bodyL p)) := HA5.out.go hb6 ha6
    clear hb6 ha6 HA5 HF5
    have c6 := HA6.out.buf.cell
    have hcv := buf_conv HA6.out.buf
    have hsz : (ofL (bodyL p)).size = (bodyL p).length := ofL_size _
    have hbl : (bodyL p).length = 244 := by unfold bodyL; rw [List.length_append, List.length_append, headL_length, cellsL_length _ HSm.out, HL.out, List.length_replicate]
    have HBL := Lib.hid hbl
    have hmx : (ofL (bodyL p)).size ≤ maxLen := by rw [hsz, hbl]; unfold maxLen; omega
    have hsum := sum_any (ofL (bodyL p)) w6 hmx (HT.out.below HA6.out.old)
    rw [ofL_list] at hsum
    have HSum := Lib.hid hsum
    have hs0 := (Crc.sum (bodyL p)).isLt
    have hs1 : (Crc.sum (bodyL p)).toNat ≤ 4294967295 := by omega
    have hqw : IntKind.i64.wrap ((Crc.sum (bodyL p)).toNat : Int) = ((Crc.sum (bodyL p)).toNat : Int) := IntWalk.i64_in _ (by omega)
    have HEB : Hid (encL p = bodyL p ++ leL (Crc.sum (bodyL p)).toNat 4 ++ leL p.lsn 8) := rfl
    clear hsum hs0 hsz hbl hmx
    generalize (Crc.sum (bodyL p)).toNat = q at *
    generalize bodyL p = Bd at *
    generalize ofL Bd = S at *
    generalize hbn : Bd.length = bn at *
    have HBN := Lib.hid hbn
    clear hbn
    go_wp2_with fail
    refine HSum.out.mono ?_
    rintro e w6' ⟨rfl, rfl⟩
    clear HSum
    go_wp2_with fail
    refine (number_any P D Bd q 4 _ HA6.out.buf (by omega) (by omega) (by have := HBL.out; have := HBN.out; omega)).mono ?_
    rintro e w7 ⟨rfl, hb7, ha7⟩
    have HA7 := Lib.hid (HA6.out.go hb7 ha7)
    have c7 : w7.cell? ⟨w.heap.size, 1, none⟩ = some (.int .i64 p.lsn) := (HA7.out.cell 1).trans E1.out
    clear hb7 ha7 HA6 c6 hcv
    go_wp2_with fail
    refine (number_any P D _ p.lsn 8 _ HA7.out.buf (by omega) (by omega) (by rw [List.length_append, leL_length]; have := HBL.out; have := HBN.out; omega)).mono ?_
    rintro e w8 ⟨rfl, hb8, ha8⟩
    have HA8 : Hid (EncAt w C w8 P D (encL p)) := by show EncAt _ _ _ _ _ _; rw [HEB.out]; exact HA7.out.go hb8 ha8
    have c8 := HA8.out.buf.cell
    have hcv8 := buf_conv HA8.out.buf
    clear hb8 ha8 HA7 c7 HEB
    generalize ofL (encL p) = Z at *
    generalize (encL p).length = zn at *
    go_wp2_with fail
    go_ret2
    exact ⟨by rw [HE.out]; rfl, HA8.out.old⟩
  · have HE : Hid (encR p = (⟨#[]⟩, checkR p)) := if_neg hc
    have hcb : (checkR p != 0) = true := by rw [bne_iff_ne]; exact hc
    clear hc
    go_wp2_with fail
    go_ret2
    exact ⟨by rw [HE.out]; rfl, HB2.out⟩
end Go.Proofs.YtoceglomogcgcaaDoor
