/- the law PageReturns -/
import Derived.Test.YtoceglomogcgcaaDoorLwForms
import Derived.Test.YtoceglomogcgcaaDoorPgTear
import Derived.Deep.RegionHeld3
namespace Go.Proofs.YtoceglomogcgcaaDoor
open Go.RowKit

theorem id_enc {p : Pg} (hc : checkR p = 0) (hl : p.cells.length = 16) {id : Int} (h0 : 0 ≤ id ∧ id < 64) : idR (ofL (encL p)) id = if p.id = id then (p, 0) else (newPg 0, 6) := by
  unfold idR
  rw [if_neg (by omega), dec_enc hc hl, if_neg (by simp), if_neg (by simp)]
  by_cases h : p.id = id
  · rw [if_neg (by simp [h]), if_pos h]
  · rw [if_pos h, if_neg h]
theorem id_blank {id : Int} (h0 : 0 ≤ id ∧ id < 64) : idR (zeroS 256) id = (newPg id, 0) := by
  have : decR (zeroS 256) = (newPg 0, 7) := by
    unfold decR
    rw [if_neg (by rw [zeroS_size]; decide), if_pos rfl]
  unfold idR
  rw [if_neg (by omega), this, if_pos rfl]
theorem newPg_good (id : Int) (h0 : 0 ≤ id ∧ id < 64) : Good (newPg id) :=
  good_of rfl (fun c hc => by
    have : c = emptyCl := List.eq_of_mem_replicate hc
    subst this
    decide) ⟨by show _ ≤ id; omega, by show id ≤ _; omega⟩ ⟨by show _ ≤ (0 : Int); omega, by show (0 : Int) ≤ _; omega⟩
theorem PgIn.range {W : World} {B : Nat} {p : Pg} (h : PgIn W B p) : W.rangeAt B 0 (pgCells p) := fun j v hv => by
  rw [Nat.zero_add, cell_of_row W B j _ _ _ h, List.getElem?_toArray]
  exact hv
theorem info_len {p : Pg} (h : p.cells.length = 16) : (Tryd.prog.info? 27).map (·.size) = some (pgCells p).length := by rw [pgCells_length, h]; exact info_page
/-- a page's row, as a drawn region reads it -/
theorem page_cells {W : World} {B : Nat} {p : Pg} (h : PgIn W B p) (hl : p.cells.length = 16) : Sem.run Tryd.prog (loadCellsFrom ⟨B, 0, none⟩ 0 34 #[]) W = .ok (pgCells p).toArray W := by
  have := run_loadCells_list (P := Tryd.prog) W ⟨B, 0, none⟩ (pgCells p) (fun j v hv => by
    rw [Addr.add_mid, Nat.zero_add, cell_of_row W B j _ _ _ h, List.getElem?_toArray]
    exact hv)
  rw [show (pgCells p).length = 34 from by rw [pgCells_length, hl]] at this
  exact this
set_option maxHeartbeats 8000000 in
set_option maxRecDepth 20000 in
theorem returns_any (x : Option Addr) (len cap : Nat) (zs : List Int) (o : Int) (w : World) (hr : IsRow .u8 w x len cap zs) (ht : TabAt w) (o0 : 0 ≤ o) (o1 : o ≤ 255) :
    Calls Tryd.prog 6 #[.slice x len cap, .int .u8 o] w fun e w' => e = .returned (.bool true) ∧ Below w.heap.size w w' := by
  have HT := Lib.hid ht
  have HR := Lib.hid hr
  obtain ⟨k, hk⟩ : ∃ k : Int, o % 64 = k := ⟨_, rfl⟩
  have HK : Hid (0 ≤ k ∧ k < 64) := ⟨by omega, by omega⟩
  clear ht hr
  go_enter Tryd.func6, Tryd.ntmps6
  go_wp2_with fail
  refine (awake_page _ HT.out).mono ?_
  rintro e w1 ⟨rfl, hb⟩
  have HR1 := Lib.hid (row_below HR.out hb)
  go_wp2_with fail
  refine (new_to 100 (by omega) _ _ _ zs _ HR1.out).mono ?_
  rintro e w2 ⟨rfl, hb2, hc2⟩
  have HE2 := Lib.hid (start_env hb hb2 hc2 HT.out)
  clear hb hb2 hc2 HR HR1
  generalize w1.heap.size = C at *
  go_wp2_with fail
  refine (next_any C 64 _ HE2.out.codes (by omega)).mono ?_
  rintro e w3 ⟨id, rfl, id0, id1, hb3, hc3⟩
  have HE3 := Lib.hid (HE2.out.besides HT.out hb3 hc3)
  have HId : Hid (0 ≤ id ∧ id < 64) := ⟨id0, by omega⟩
  clear hb3 hc3 id0 id1
  go_wp2_with fail
  refine (draw_page C id _ HE3.out.codes).mono ?_
  rintro e w4 ⟨p, rfl, hp, hb4, hc4⟩
  have HE4 := Lib.hid (HE3.out.besides HT.out hb4 hc4)
  have HP := Lib.hid hp
  have HPl := Lib.hid hp.len
  clear hb4 hc4 hp HE2 HE3
  have HGa : Hid (PgIn (w4.alloc (.cells (pgCells (newPg 0)).toArray 27)) w4.heap.size (newPg 0)) := heap_alloc_last w4 _
  have HE5 := Lib.hid (HE4.out.calls (putPg_below w4 p))
  have HA5 := Lib.hid (putPg_at w4 p)
  have HDf : Hid (putPg w4 p = (w4.alloc (.cells (pgCells (newPg 0)).toArray 27)).setRow w4.heap.size (pgCells p).toArray) := rfl
  have HA5' := HA5
  rw [HDf.out] at HA5'
  go_wp2_with (first | ((with_reducible refine wpList_alloc_pg ?_); simp only [Act.put, List.setIfInBounds_toArray, List.set_cons_zero, List.set_cons_succ]) | ((with_reducible refine wpList_store_pg (.tmp 6) w4.heap.size p (newPg 0) ?_ ?_ ?_ ?_ ?_ ?_); (exact rfl); (exact rfl); (exact HGa.out); (exact HPl.out); (exact rfl); skip) | ((with_reducible refine wpList_load_pg (.tmp 6) w4.heap.size p ?_ ?_ ?_ ?_); (exact rfl); (exact HA5'.out); (exact HPl.out); simp only [Act.put, List.setIfInBounds_toArray, List.set_cons_zero, List.set_cons_succ]))
  rw [← HDf.out]
  clear HGa HE4 HA5'
  generalize putPg w4 p = w5 at *
  generalize w4.heap.size = B6 at *
  refine (enc_ok (HP.out.check HId.out.1 HId.out.2) HPl.out _ HE5.out.tab).mono ?_
  rintro e w6 ⟨rfl, hb6⟩
  have HE6 := Lib.hid (HE5.out.calls hb6)
  have HA6 := Lib.hid (HA5.out.calls hb6)
  clear hb6 HE5 HA5
  have hck := HP.out.check HId.out.1 HId.out.2
  have HSz : Hid ((ofL (encL p)).size ≤ maxLen) := by show _ ≤ _; rw [enc_size hck HPl.out]; unfold maxLen; omega
  have HDc : Hid (∀ W, TabAt W → Calls Tryd.prog 25 #[.string (ofL (encL p))] W fun e w' => e = .returned (.tuple #[.agg (pgCells p).toArray, .int .i64 0]) ∧ Below W.heap.size W w') := fun W hW => by
    have := decode_page (ofL (encL p)) W HSz.out hW
    rw [dec_enc hck HPl.out] at this
    exact this
  have HI1 : Hid (∀ W, TabAt W → Calls Tryd.prog 27 #[.string (ofL (encL p)), .int .i64 p.id] W fun e w' => e = .returned (.tuple #[.agg (pgCells p).toArray, .int .i64 0]) ∧ Below W.heap.size W w') := fun W hW => by
    have := identify_any (ofL (encL p)) p.id W HSz.out hW
    unfold IdPost at this
    rw [id_enc hck HPl.out (by rw [HP.out.id]; exact HId.out), if_pos rfl] at this
    exact this
  have HI2 : Hid (∀ W, TabAt W → Calls Tryd.prog 27 #[.string (ofL (encL p)), .int .i64 k] W fun e w' => e = .returned (.tuple #[.agg (pgCells (if p.id = k then (p, 0) else (newPg 0, 6) : Pg × Int).1).toArray, .int .i64 (if p.id = k then (p, 0) else (newPg 0, 6) : Pg × Int).2]) ∧ Below W.heap.size W w') := fun W hW => by
    have := identify_any (ofL (encL p)) k W HSz.out hW
    unfold IdPost at this
    rw [id_enc hck HPl.out HK.out] at this
    exact this
  have HI3 : Hid (∀ W, TabAt W → Calls Tryd.prog 27 #[.string (zeroS 256), .int .i64 k] W fun e w' => e = .returned (.tuple #[.agg (pgCells (newPg k)).toArray, .int .i64 0]) ∧ Below W.heap.size W w') := fun W hW => by
    have := identify_any (zeroS 256) k W (by rw [zeroS_size]; unfold maxLen; omega) hW
    unfold IdPost at this
    rw [id_blank HK.out] at this
    exact this
  have HNk : Hid (∀ W, Calls Tryd.prog 19 #[.int .i64 k] W fun e w' => e = .returned (.agg (pgCells (newPg k)).toArray) ∧ Below W.heap.size W w') := fun W => new_page k W
  have HBl : Hid (∀ W, Calls Tryd.prog 21 #[] W fun e w' => e = .returned (.string (zeroS 256)) ∧ Below W.heap.size W w') := fun W => blank_any W
  have hpp : ∀ W, Sem.run Tryd.prog (binOp .eql 27 (.agg (pgCells p).toArray) (.agg (pgCells p).toArray)) W = .ok (.bool true) W := fun W => by
    have := run_page_eql p p (HP.out.good HId.out.1 HId.out.2) (HP.out.good HId.out.1 HId.out.2) W
    rw [samePg_self] at this
    exact this
  have hnn : ∀ W, Sem.run Tryd.prog (binOp .eql 27 (.agg (pgCells (newPg k)).toArray) (.agg (pgCells (newPg k)).toArray)) W = .ok (.bool true) W := fun W => by
    have := run_page_eql (newPg k) (newPg k) (newPg_good k HK.out) (newPg_good k HK.out) W
    rw [samePg_self] at this
    exact this
  have HNl : Hid ((newPg k).cells.length = 16) := rfl
  clear hck
  generalize ofL (encL p) = S at *
  generalize zeroS 256 = Z at *
  go_wp2_with fail
  refine (HDc.out _ HE6.out.tab).mono ?_
  rintro e w7 ⟨rfl, hb7⟩
  have HE7 := Lib.hid (HE6.out.calls hb7)
  have HA7 := Lib.hid (HA6.out.calls hb7)
  clear hb7 HE6 HA6
  have HGa : Hid (PgIn (w7.alloc (.cells (pgCells (newPg 0)).toArray 27)) w7.heap.size (newPg 0)) := heap_alloc_last w7 _
  have HE8 := Lib.hid (HE7.out.calls (putPg_below w7 p))
  have HA8 := Lib.hid (HA7.out.calls (putPg_below w7 p))
  have HQ8 := Lib.hid (putPg_at w7 p)
  have HDg : Hid (putPg w7 p = (w7.alloc (.cells (pgCells (newPg 0)).toArray 27)).setRow w7.heap.size (pgCells p).toArray) := rfl
  have c8 : (putPg w7 p).cell? ⟨B6, 0, none⟩ = some (.int .i64 p.id) := HA8.out.cell 0
  rw [HDg.out] at c8
  go_wp2_with (first | ((with_reducible refine wpList_alloc_pg ?_); simp only [Act.put, List.setIfInBounds_toArray, List.set_cons_zero, List.set_cons_succ]) | ((with_reducible refine wpList_store_pg (.tmp 9) w7.heap.size p (newPg 0) ?_ ?_ ?_ ?_ ?_ ?_); (exact rfl); (exact rfl); (exact HGa.out); (exact HPl.out); (exact rfl); skip))
  rw [← HDg.out]
  clear HGa HE7 HA7 c8
  generalize putPg w7 p = w8 at *
  generalize w7.heap.size = B9 at *
  refine (HI1.out _ HE8.out.tab).mono ?_
  rintro e w9 ⟨rfl, hb9⟩
  have HE9 := Lib.hid (HE8.out.calls hb9)
  have HA9 := Lib.hid (HA8.out.calls hb9)
  have HQ9 := Lib.hid (HQ8.out.calls hb9)
  clear hb9 HE8 HA8 HQ8
  have HGa : Hid (PgIn (w9.alloc (.cells (pgCells (newPg 0)).toArray 27)) w9.heap.size (newPg 0)) := heap_alloc_last w9 _
  have HE10 := Lib.hid (HE9.out.calls (putPg_below w9 p))
  have HA10 := Lib.hid (HA9.out.calls (putPg_below w9 p))
  have HQ10 := Lib.hid (HQ9.out.calls (putPg_below w9 p))
  have HS10 := Lib.hid (putPg_at w9 p)
  have HDh : Hid (putPg w9 p = (w9.alloc (.cells (pgCells (newPg 0)).toArray 27)).setRow w9.heap.size (pgCells p).toArray) := rfl
  go_wp2_with (first | ((with_reducible refine wpList_alloc_pg ?_); simp only [Act.put, List.setIfInBounds_toArray, List.set_cons_zero, List.set_cons_succ]) | ((with_reducible refine wpList_store_pg (.tmp 11) w9.heap.size p (newPg 0) ?_ ?_ ?_ ?_ ?_ ?_); (exact rfl); (exact rfl); (exact HGa.out); (exact HPl.out); (exact rfl); skip))
  rw [← HDh.out]
  rw [hk]
  clear HGa HE9 HA9 HQ9 hk o0 o1
  generalize putPg w9 p = w10 at *
  generalize w9.heap.size = B11 at *
  refine (HI2.out _ HE10.out.tab).mono ?_
  rintro e w11 ⟨rfl, hb11⟩
  have HE11 := Lib.hid (HE10.out.calls hb11)
  have HA11 := Lib.hid (HA10.out.calls hb11)
  have HQ11 := Lib.hid (HQ10.out.calls hb11)
  have HS11 := Lib.hid (HS10.out.calls hb11)
  clear hb11 HE10 HA10 HQ10 HS10
  obtain ⟨r4, n4, hr4, hr4l, h4⟩ : ∃ (r4 : Pg) (n4 : Int), (if p.id = k then (p, 0) else (newPg 0, 6) : Pg × Int) = (r4, n4) ∧ r4.cells.length = 16 ∧ ((p.id = k ∧ n4 = 0) ∨ (p.id ≠ k ∧ n4 = 6)) := by
    by_cases h : p.id = k
    · rw [if_pos h]; exact ⟨p, 0, rfl, HPl.out, .inl ⟨h, rfl⟩⟩
    · rw [if_neg h]; exact ⟨newPg 0, 6, rfl, rfl, .inr ⟨h, rfl⟩⟩
  rw [hr4]
  have H4 := Lib.hid h4
  have HL4 := Lib.hid hr4l
  clear h4 hr4l hr4
  have HGa : Hid (PgIn (w11.alloc (.cells (pgCells (newPg 0)).toArray 27)) w11.heap.size (newPg 0)) := heap_alloc_last w11 _
  have HE12 := Lib.hid (HE11.out.calls (putPg_below w11 r4))
  have HA12 := Lib.hid (HA11.out.calls (putPg_below w11 r4))
  have HQ12 := Lib.hid (HQ11.out.calls (putPg_below w11 r4))
  have HS12 := Lib.hid (HS11.out.calls (putPg_below w11 r4))
  have HDi : Hid (putPg w11 r4 = (w11.alloc (.cells (pgCells (newPg 0)).toArray 27)).setRow w11.heap.size (pgCells r4).toArray) := rfl
  go_wp2_with (first | ((with_reducible refine wpList_alloc_pg ?_); simp only [Act.put, List.setIfInBounds_toArray, List.set_cons_zero, List.set_cons_succ]) | ((with_reducible refine wpList_store_pg (.tmp 14) w11.heap.size r4 (newPg 0) ?_ ?_ ?_ ?_ ?_ ?_); (exact rfl); (exact rfl); (exact HGa.out); (exact HL4.out); (exact rfl); skip))
  rw [← HDi.out]
  clear HGa HE11 HA11 HQ11 HS11
  generalize putPg w11 r4 = w12 at *
  refine (HBl.out _).mono ?_
  rintro e w13 ⟨rfl, hb13⟩
  have HE13 := Lib.hid (HE12.out.calls hb13)
  have HA13 := Lib.hid (HA12.out.calls hb13)
  have HQ13 := Lib.hid (HQ12.out.calls hb13)
  have HS13 := Lib.hid (HS12.out.calls hb13)
  clear hb13 HE12 HA12 HQ12 HS12
  go_wp2_with fail
  refine (HI3.out _ HE13.out.tab).mono ?_
  rintro e w14 ⟨rfl, hb14⟩
  have HE14 := Lib.hid (HE13.out.calls hb14)
  have HA14 := Lib.hid (HA13.out.calls hb14)
  have HQ14 := Lib.hid (HQ13.out.calls hb14)
  have HS14 := Lib.hid (HS13.out.calls hb14)
  clear hb14 HE13 HA13 HQ13 HS13
  have HGa : Hid (PgIn (w14.alloc (.cells (pgCells (newPg 0)).toArray 27)) w14.heap.size (newPg 0)) := heap_alloc_last w14 _
  have HE15 := Lib.hid (HE14.out.calls (putPg_below w14 (newPg k)))
  have HA15 := Lib.hid (HA14.out.calls (putPg_below w14 (newPg k)))
  have HQ15 := Lib.hid (HQ14.out.calls (putPg_below w14 (newPg k)))
  have HS15 := Lib.hid (HS14.out.calls (putPg_below w14 (newPg k)))
  have HN15 := Lib.hid (putPg_at w14 (newPg k))
  have HDj : Hid (putPg w14 (newPg k) = (w14.alloc (.cells (pgCells (newPg 0)).toArray 27)).setRow w14.heap.size (pgCells (newPg k)).toArray) := rfl
  go_wp2_with (first | ((with_reducible refine wpList_alloc_pg ?_); simp only [Act.put, List.setIfInBounds_toArray, List.set_cons_zero, List.set_cons_succ]) | ((with_reducible refine wpList_store_pg (.tmp 16) w14.heap.size (newPg k) (newPg 0) ?_ ?_ ?_ ?_ ?_ ?_); (exact rfl); (exact rfl); (exact HGa.out); (exact HNl.out); (exact rfl); skip))
  rw [← HDj.out]
  clear HGa HE14 HA14 HQ14 HS14
  generalize putPg w14 (newPg k) = w15 at *
  generalize w14.heap.size = B16 at *
  have l6 : Sem.run Tryd.prog (loadCellsFrom ⟨B6, 0, none⟩ 0 34 #[]) w15.drew = .ok (pgCells p).toArray w15.drew := page_cells (W := w15.drew) HA15.out HPl.out
  have l9 : Sem.run Tryd.prog (loadCellsFrom ⟨B9, 0, none⟩ 0 34 #[]) w15.drew = .ok (pgCells p).toArray w15.drew := page_cells (W := w15.drew) HQ15.out HPl.out
  have l11 : Sem.run Tryd.prog (loadCellsFrom ⟨B11, 0, none⟩ 0 34 #[]) w15.drew = .ok (pgCells p).toArray w15.drew := page_cells (W := w15.drew) HS15.out HPl.out
  have l16 : Sem.run Tryd.prog (loadCellsFrom ⟨B16, 0, none⟩ 0 34 #[]) w15.drew = .ok (pgCells (newPg k)).toArray w15.drew := page_cells (W := w15.drew) HN15.out HNl.out
  have c15 : w15.cell? ⟨B6, 0, none⟩ = some (.int .i64 p.id) := HA15.out.cell 0
  have HNd : Hid (PgIn w15.drew B16 (newPg k)) := HN15.out
  have H6d : Hid (PgIn w15.drew B6 p) := HA15.out
  have H9d : Hid (PgIn w15.drew B9 p) := HQ15.out
  have H11d : Hid (PgIn w15.drew B11 p) := HS15.out
  obtain ⟨fs, hu⟩ := under_page
  have HU := Lib.hid hu
  clear hu
  have HEd : Hid (Below w.heap.size w w15.drew) := HE15.out.old.drew
  clear HE15 HA15 HQ15 HS15 HN15 HDf HDg HDh HDi HDj
  rcases H4.out with ⟨h4, rfl⟩ | ⟨h4, rfl⟩
  · have hbk : (k == p.id) = true := by rw [h4]; simp
    clear h4
    go_wp2_with fail
    refine wp_region_held_drew (S := fun w' => PgIn w' B6 p ∧ PgIn w' B9 p ∧ PgIn w' B11 p ∧ PgIn w' B16 (newPg k)) (by kernel_rfl) ⟨H6d.out, H9d.out, H11d.out, HNd.out⟩ (fun hHeld => ?_)
    refine wpAnyH_take (i := 0) (oi := { dst := some 58, op := Op.move (Operand.tmp 8), type := 35, pos := "law.go:102", after := #[], guard := none }) (v := ?v0) rfl (by kernel_rfl) (by kernel_rfl) (by kernel_rfl) (fun _ _ _ h => h) (Or.inl ⟨by rfl, ?hy0⟩) hHeld ?rest0
    case hy0 => (intro wq hSw; have cq : wq.cell? ⟨B6, 0, none⟩ = some (.int .i64 p.id) := hSw.1.cell 0; clear hSw; go_simp; try with_reducible rfl)
    try simp only [Act.put, List.setIfInBounds_toArray, List.set_cons_zero, List.set_cons_succ]
    refine wpAnyH_take (i := 1) (oi := { dst := some 59, op := Op.binOp BinOp.eql 35 (Operand.tmp 58) (Operand.const (Value.int IntKind.i64 0)) 35, type := 4, pos := "law.go:102", after := #[{ on := 0, ground := Ground.data }], guard := none }) (v := ?v1) rfl (by kernel_rfl) (by kernel_rfl) (by kernel_rfl) (fun _ _ _ h => h) (Or.inl ⟨by rfl, ?hy1⟩) hHeld ?rest1
    case hy1 => (intro wq hSw; have cq : wq.cell? ⟨B6, 0, none⟩ = some (.int .i64 p.id) := hSw.1.cell 0; clear hSw; go_simp; try with_reducible rfl)
    try simp only [Act.put, List.setIfInBounds_toArray, List.set_cons_zero, List.set_cons_succ]
    refine wpAnyH_take (i := 2) (oi := { dst := some 60, op := Op.move (Operand.tmp 59), type := 4, pos := "law.go:102", after := #[{ on := 1, ground := Ground.data }], guard := none }) (v := ?v2) rfl (by kernel_rfl) (by kernel_rfl) (by kernel_rfl) (fun _ _ _ h => h) (Or.inl ⟨by rfl, ?hy2⟩) hHeld ?rest2
    case hy2 => (intro wq hSw; have cq : wq.cell? ⟨B6, 0, none⟩ = some (.int .i64 p.id) := hSw.1.cell 0; clear hSw; go_simp; try with_reducible rfl)
    try simp only [Act.put, List.setIfInBounds_toArray, List.set_cons_zero, List.set_cons_succ]
    refine wpAnyH_take (i := 3) (oi := { dst := some 61, op := Op.move (Operand.tmp 10), type := 35, pos := "law.go:102", after := #[{ on := 2, ground := Ground.guard }], guard := some (2, true) }) (v := ?v3) rfl (by kernel_rfl) (by kernel_rfl) (by kernel_rfl) (fun _ _ _ h => h) (Or.inl ⟨by rfl, ?hy3⟩) hHeld ?rest3
    case hy3 => (intro wq hSw; have cq : wq.cell? ⟨B6, 0, none⟩ = some (.int .i64 p.id) := hSw.1.cell 0; clear hSw; go_simp; try with_reducible rfl)
    try simp only [Act.put, List.setIfInBounds_toArray, List.set_cons_zero, List.set_cons_succ]
    refine wpAnyH_take (i := 4) (oi := { dst := some 62, op := Op.binOp BinOp.eql 35 (Operand.tmp 61) (Operand.const (Value.int IntKind.i64 0)) 35, type := 4, pos := "law.go:102", after := #[{ on := 3, ground := Ground.data }, { on := 2, ground := Ground.guard }], guard := some (2, true) }) (v := ?v4) rfl (by kernel_rfl) (by kernel_rfl) (by kernel_rfl) (fun _ _ _ h => h) (Or.inl ⟨by rfl, ?hy4⟩) hHeld ?rest4
    case hy4 => (intro wq hSw; have cq : wq.cell? ⟨B6, 0, none⟩ = some (.int .i64 p.id) := hSw.1.cell 0; clear hSw; go_simp; try with_reducible rfl)
    try simp only [Act.put, List.setIfInBounds_toArray, List.set_cons_zero, List.set_cons_succ]
    refine wpAnyH_take (i := 5) (oi := { dst := some 63, op := Op.pick (Operand.tmp 60) (Operand.tmp 62) (Operand.const (Value.bool false)), type := 4, pos := "law.go:102", after := #[{ on := 2, ground := Ground.data }, { on := 4, ground := Ground.data }], guard := none }) (v := ?v5) rfl (by kernel_rfl) (by kernel_rfl) (by kernel_rfl) (fun _ _ _ h => h) (Or.inl ⟨by rfl, ?hy5⟩) hHeld ?rest5
    case hy5 => (intro wq hSw; have cq : wq.cell? ⟨B6, 0, none⟩ = some (.int .i64 p.id) := hSw.1.cell 0; clear hSw; go_simp; try with_reducible rfl)
    try simp only [Act.put, List.setIfInBounds_toArray, List.set_cons_zero, List.set_cons_succ]
    refine wpAnyH_take (i := 6) (oi := { dst := some 64, op := Op.move (Operand.tmp 63), type := 4, pos := "law.go:102", after := #[{ on := 5, ground := Ground.data }, { on := 2, ground := Ground.chain }], guard := none }) (v := ?v6) rfl (by kernel_rfl) (by kernel_rfl) (by kernel_rfl) (fun _ _ _ h => h) (Or.inl ⟨by rfl, ?hy6⟩) hHeld ?rest6
    case hy6 => (intro wq hSw; have cq : wq.cell? ⟨B6, 0, none⟩ = some (.int .i64 p.id) := hSw.1.cell 0; clear hSw; go_simp; try with_reducible rfl)
    try simp only [Act.put, List.setIfInBounds_toArray, List.set_cons_zero, List.set_cons_succ]
    refine wpAnyH_take (i := 7) (oi := { dst := some 65, op := Op.move (Operand.tmp 12), type := 35, pos := "law.go:102", after := #[{ on := 6, ground := Ground.guard }], guard := some (6, true) }) (v := ?v7) rfl (by kernel_rfl) (by kernel_rfl) (by kernel_rfl) (fun _ _ _ h => h) (Or.inl ⟨by rfl, ?hy7⟩) hHeld ?rest7
    case hy7 => (intro wq hSw; have cq : wq.cell? ⟨B6, 0, none⟩ = some (.int .i64 p.id) := hSw.1.cell 0; clear hSw; go_simp; try with_reducible rfl)
    try simp only [Act.put, List.setIfInBounds_toArray, List.set_cons_zero, List.set_cons_succ]
    refine wpAnyH_take (i := 8) (oi := { dst := some 66, op := Op.binOp BinOp.eql 35 (Operand.tmp 65) (Operand.const (Value.int IntKind.i64 0)) 35, type := 4, pos := "law.go:102", after := #[{ on := 7, ground := Ground.data }, { on := 6, ground := Ground.guard }], guard := some (6, true) }) (v := ?v8) rfl (by kernel_rfl) (by kernel_rfl) (by kernel_rfl) (fun _ _ _ h => h) (Or.inl ⟨by rfl, ?hy8⟩) hHeld ?rest8
    case hy8 => (intro wq hSw; have cq : wq.cell? ⟨B6, 0, none⟩ = some (.int .i64 p.id) := hSw.1.cell 0; clear hSw; go_simp; try with_reducible rfl)
    try simp only [Act.put, List.setIfInBounds_toArray, List.set_cons_zero, List.set_cons_succ]
    refine wpAnyH_take (i := 9) (oi := { dst := some 67, op := Op.pick (Operand.tmp 64) (Operand.tmp 66) (Operand.const (Value.bool false)), type := 4, pos := "law.go:102", after := #[{ on := 6, ground := Ground.data }, { on := 8, ground := Ground.data }], guard := none }) (v := ?v9) rfl (by kernel_rfl) (by kernel_rfl) (by kernel_rfl) (fun _ _ _ h => h) (Or.inl ⟨by rfl, ?hy9⟩) hHeld ?rest9
    case hy9 => (intro wq hSw; have cq : wq.cell? ⟨B6, 0, none⟩ = some (.int .i64 p.id) := hSw.1.cell 0; clear hSw; go_simp; try with_reducible rfl)
    try simp only [Act.put, List.setIfInBounds_toArray, List.set_cons_zero, List.set_cons_succ]
    refine wpAnyH_take (i := 10) (oi := { dst := some 68, op := Op.move (Operand.tmp 67), type := 4, pos := "law.go:102", after := #[{ on := 9, ground := Ground.data }, { on := 6, ground := Ground.chain }], guard := none }) (v := ?v10) rfl (by kernel_rfl) (by kernel_rfl) (by kernel_rfl) (fun _ _ _ h => h) (Or.inl ⟨by rfl, ?hy10⟩) hHeld ?rest10
    case hy10 => (intro wq hSw; have cq : wq.cell? ⟨B6, 0, none⟩ = some (.int .i64 p.id) := hSw.1.cell 0; clear hSw; go_simp; try with_reducible rfl)
    try simp only [Act.put, List.setIfInBounds_toArray, List.set_cons_zero, List.set_cons_succ]
    refine wpAnyH_take (i := 11) (oi := { dst := some 69, op := Op.load 27 (Operand.tmp 6), type := 27, pos := "law.go:102", after := #[{ on := 10, ground := Ground.guard }], guard := some (10, true) }) rfl (by kernel_rfl) (by kernel_rfl) (by kernel_rfl) (fun _ _ _ h => h) (yieldsIf_load_mid (by rfl) 27 (.tmp 6) rfl B6 0 rfl (pgCells p) _ (fun _ h => (h.1).range) HU.out rfl (info_len HPl.out)) hHeld ?_
    try simp only [Act.put, List.setIfInBounds_toArray, List.set_cons_zero, List.set_cons_succ]
    refine wpAnyH_take (i := 12) (oi := { dst := some 70, op := Op.load 27 (Operand.tmp 9), type := 27, pos := "law.go:102", after := #[{ on := 10, ground := Ground.guard }], guard := some (10, true) }) rfl (by kernel_rfl) (by kernel_rfl) (by kernel_rfl) (fun _ _ _ h => h) (yieldsIf_load_mid (by rfl) 27 (.tmp 9) rfl B9 0 rfl (pgCells p) _ (fun _ h => (h.2.1).range) HU.out rfl (info_len HPl.out)) hHeld ?_
    try simp only [Act.put, List.setIfInBounds_toArray, List.set_cons_zero, List.set_cons_succ]
    refine wpAnyH_take (i := 13) (oi := { dst := some 71, op := Op.binOp BinOp.eql 27 (Operand.tmp 69) (Operand.tmp 70) 27, type := 4, pos := "law.go:102", after := #[{ on := 11, ground := Ground.data }, { on := 12, ground := Ground.data }, { on := 10, ground := Ground.guard }], guard := some (10, true) }) (v := ?v13) rfl (by kernel_rfl) (by kernel_rfl) (by kernel_rfl) (fun _ _ _ h => h) (Or.inl ⟨by rfl, ?hy13⟩) hHeld ?rest13
    case hy13 => (intro wq hSw; have cq : wq.cell? ⟨B6, 0, none⟩ = some (.int .i64 p.id) := hSw.1.cell 0; clear hSw; go_simp; try with_reducible rfl)
    try simp only [Act.put, List.setIfInBounds_toArray, List.set_cons_zero, List.set_cons_succ]
    refine wpAnyH_take (i := 14) (oi := { dst := some 72, op := Op.pick (Operand.tmp 68) (Operand.tmp 71) (Operand.const (Value.bool false)), type := 4, pos := "law.go:102", after := #[{ on := 10, ground := Ground.data }, { on := 13, ground := Ground.data }], guard := none }) (v := ?v14) rfl (by kernel_rfl) (by kernel_rfl) (by kernel_rfl) (fun _ _ _ h => h) (Or.inl ⟨by rfl, ?hy14⟩) hHeld ?rest14
    case hy14 => (intro wq hSw; have cq : wq.cell? ⟨B6, 0, none⟩ = some (.int .i64 p.id) := hSw.1.cell 0; clear hSw; go_simp; try with_reducible rfl)
    try simp only [Act.put, List.setIfInBounds_toArray, List.set_cons_zero, List.set_cons_succ]
    refine wpAnyH_take (i := 15) (oi := { dst := some 73, op := Op.move (Operand.tmp 72), type := 4, pos := "law.go:102", after := #[{ on := 14, ground := Ground.data }, { on := 10, ground := Ground.chain }], guard := none }) (v := ?v15) rfl (by kernel_rfl) (by kernel_rfl) (by kernel_rfl) (fun _ _ _ h => h) (Or.inl ⟨by rfl, ?hy15⟩) hHeld ?rest15
    case hy15 => (intro wq hSw; have cq : wq.cell? ⟨B6, 0, none⟩ = some (.int .i64 p.id) := hSw.1.cell 0; clear hSw; go_simp; try with_reducible rfl)
    try simp only [Act.put, List.setIfInBounds_toArray, List.set_cons_zero, List.set_cons_succ]
    refine wpAnyH_take (i := 16) (oi := { dst := some 74, op := Op.load 27 (Operand.tmp 6), type := 27, pos := "law.go:102", after := #[{ on := 15, ground := Ground.guard }], guard := some (15, true) }) rfl (by kernel_rfl) (by kernel_rfl) (by kernel_rfl) (fun _ _ _ h => h) (yieldsIf_load_mid (by rfl) 27 (.tmp 6) rfl B6 0 rfl (pgCells p) _ (fun _ h => (h.1).range) HU.out rfl (info_len HPl.out)) hHeld ?_
    try simp only [Act.put, List.setIfInBounds_toArray, List.set_cons_zero, List.set_cons_succ]
    refine wpAnyH_take (i := 17) (oi := { dst := some 75, op := Op.load 27 (Operand.tmp 11), type := 27, pos := "law.go:102", after := #[{ on := 15, ground := Ground.guard }], guard := some (15, true) }) rfl (by kernel_rfl) (by kernel_rfl) (by kernel_rfl) (fun _ _ _ h => h) (yieldsIf_load_mid (by rfl) 27 (.tmp 11) rfl B11 0 rfl (pgCells p) _ (fun _ h => (h.2.2.1).range) HU.out rfl (info_len HPl.out)) hHeld ?_
    try simp only [Act.put, List.setIfInBounds_toArray, List.set_cons_zero, List.set_cons_succ]
    refine wpAnyH_take (i := 18) (oi := { dst := some 76, op := Op.binOp BinOp.eql 27 (Operand.tmp 74) (Operand.tmp 75) 27, type := 4, pos := "law.go:102", after := #[{ on := 16, ground := Ground.data }, { on := 17, ground := Ground.data }, { on := 15, ground := Ground.guard }], guard := some (15, true) }) (v := ?v18) rfl (by kernel_rfl) (by kernel_rfl) (by kernel_rfl) (fun _ _ _ h => h) (Or.inl ⟨by rfl, ?hy18⟩) hHeld ?rest18
    case hy18 => (intro wq hSw; have cq : wq.cell? ⟨B6, 0, none⟩ = some (.int .i64 p.id) := hSw.1.cell 0; clear hSw; go_simp; try with_reducible rfl)
    try simp only [Act.put, List.setIfInBounds_toArray, List.set_cons_zero, List.set_cons_succ]
    refine wpAnyH_take (i := 19) (oi := { dst := some 77, op := Op.pick (Operand.tmp 73) (Operand.tmp 76) (Operand.const (Value.bool false)), type := 4, pos := "law.go:102", after := #[{ on := 15, ground := Ground.data }, { on := 18, ground := Ground.data }], guard := none }) (v := ?v19) rfl (by kernel_rfl) (by kernel_rfl) (by kernel_rfl) (fun _ _ _ h => h) (Or.inl ⟨by rfl, ?hy19⟩) hHeld ?rest19
    case hy19 => (intro wq hSw; have cq : wq.cell? ⟨B6, 0, none⟩ = some (.int .i64 p.id) := hSw.1.cell 0; clear hSw; go_simp; try with_reducible rfl)
    try simp only [Act.put, List.setIfInBounds_toArray, List.set_cons_zero, List.set_cons_succ]
    refine wpAnyH_take (i := 20) (oi := { dst := some 78, op := Op.move (Operand.tmp 77), type := 4, pos := "law.go:102", after := #[{ on := 19, ground := Ground.data }, { on := 15, ground := Ground.chain }], guard := none }) (v := ?v20) rfl (by kernel_rfl) (by kernel_rfl) (by kernel_rfl) (fun _ _ _ h => h) (Or.inl ⟨by rfl, ?hy20⟩) hHeld ?rest20
    case hy20 => (intro wq hSw; have cq : wq.cell? ⟨B6, 0, none⟩ = some (.int .i64 p.id) := hSw.1.cell 0; clear hSw; go_simp; try with_reducible rfl)
    try simp only [Act.put, List.setIfInBounds_toArray, List.set_cons_zero, List.set_cons_succ]
    refine wpAnyH_take (i := 21) (oi := { dst := some 79, op := Op.move (Operand.tmp 15), type := 35, pos := "law.go:102", after := #[{ on := 20, ground := Ground.guard }], guard := some (20, true) }) (v := ?v21) rfl (by kernel_rfl) (by kernel_rfl) (by kernel_rfl) (fun _ _ _ h => h) (Or.inl ⟨by rfl, ?hy21⟩) hHeld ?rest21
    case hy21 => (intro wq hSw; have cq : wq.cell? ⟨B6, 0, none⟩ = some (.int .i64 p.id) := hSw.1.cell 0; clear hSw; go_simp; try with_reducible rfl)
    try simp only [Act.put, List.setIfInBounds_toArray, List.set_cons_zero, List.set_cons_succ]
    refine wpAnyH_take (i := 22) (oi := { dst := some 80, op := Op.binOp BinOp.eql 35 (Operand.tmp 79) (Operand.const (Value.int IntKind.i64 0)) 35, type := 4, pos := "law.go:102", after := #[{ on := 21, ground := Ground.data }, { on := 20, ground := Ground.guard }], guard := some (20, true) }) (v := ?v22) rfl (by kernel_rfl) (by kernel_rfl) (by kernel_rfl) (fun _ _ _ h => h) (Or.inl ⟨by rfl, ?hy22⟩) hHeld ?rest22
    case hy22 => (intro wq hSw; have cq : wq.cell? ⟨B6, 0, none⟩ = some (.int .i64 p.id) := hSw.1.cell 0; clear hSw; go_simp; try with_reducible rfl)
    try simp only [Act.put, List.setIfInBounds_toArray, List.set_cons_zero, List.set_cons_succ]
    refine wpAnyH_take (i := 23) (oi := { dst := some 81, op := Op.move (Operand.tmp 13), type := 3, pos := "law.go:102", after := #[{ on := 20, ground := Ground.guard }], guard := some (20, true) }) (v := ?v23) rfl (by kernel_rfl) (by kernel_rfl) (by kernel_rfl) (fun _ _ _ h => h) (Or.inl ⟨by rfl, ?hy23⟩) hHeld ?rest23
    case hy23 => (intro wq hSw; have cq : wq.cell? ⟨B6, 0, none⟩ = some (.int .i64 p.id) := hSw.1.cell 0; clear hSw; go_simp; try with_reducible rfl)
    try simp only [Act.put, List.setIfInBounds_toArray, List.set_cons_zero, List.set_cons_succ]
    refine wpAnyH_take (i := 24) (oi := { dst := some 82, op := Op.fieldAddr 27 (Operand.tmp 6) 0, type := 0, pos := "law.go:102", after := #[{ on := 20, ground := Ground.guard }], guard := some (20, true) }) (v := ?v24) rfl (by kernel_rfl) (by kernel_rfl) (by kernel_rfl) (fun _ _ _ h => h) (Or.inl ⟨by rfl, ?hy24⟩) hHeld ?rest24
    case hy24 => (intro wq hSw; have cq : wq.cell? ⟨B6, 0, none⟩ = some (.int .i64 p.id) := hSw.1.cell 0; clear hSw; go_simp; try with_reducible rfl)
    try simp only [Act.put, List.setIfInBounds_toArray, List.set_cons_zero, List.set_cons_succ]
    refine wpAnyH_take (i := 25) (oi := { dst := some 83, op := Op.load 3 (Operand.tmp 82), type := 3, pos := "law.go:102", after := #[{ on := 24, ground := Ground.data }, { on := 20, ground := Ground.guard }], guard := some (20, true) }) (v := ?v25) rfl (by kernel_rfl) (by kernel_rfl) (by kernel_rfl) (fun _ _ _ h => h) (Or.inl ⟨by rfl, ?hy25⟩) hHeld ?rest25
    case hy25 => (intro wq hSw; have cq : wq.cell? ⟨B6, 0, none⟩ = some (.int .i64 p.id) := hSw.1.cell 0; clear hSw; go_simp; try with_reducible rfl)
    try simp only [Act.put, List.setIfInBounds_toArray, List.set_cons_zero, List.set_cons_succ]
    refine wpAnyH_take (i := 26) (oi := { dst := some 84, op := Op.binOp BinOp.eql 3 (Operand.tmp 81) (Operand.tmp 83) 3, type := 4, pos := "law.go:102", after := #[{ on := 23, ground := Ground.data }, { on := 25, ground := Ground.data }, { on := 20, ground := Ground.guard }], guard := some (20, true) }) (v := ?v26) rfl (by kernel_rfl) (by kernel_rfl) (by kernel_rfl) (fun _ _ _ h => h) (Or.inl ⟨by rfl, ?hy26⟩) hHeld ?rest26
    case hy26 => (intro wq hSw; have cq : wq.cell? ⟨B6, 0, none⟩ = some (.int .i64 p.id) := hSw.1.cell 0; clear hSw; go_simp; try with_reducible rfl)
    try simp only [Act.put, List.setIfInBounds_toArray, List.set_cons_zero, List.set_cons_succ]
    refine wpAnyH_take (i := 27) (oi := { dst := some 85, op := Op.binOp BinOp.eql 4 (Operand.tmp 80) (Operand.tmp 84) 4, type := 4, pos := "law.go:102", after := #[{ on := 22, ground := Ground.data }, { on := 26, ground := Ground.data }, { on := 20, ground := Ground.guard }], guard := some (20, true) }) (v := ?v27) rfl (by kernel_rfl) (by kernel_rfl) (by kernel_rfl) (fun _ _ _ h => h) (Or.inl ⟨by rfl, ?hy27⟩) hHeld ?rest27
    case hy27 => (intro wq hSw; have cq : wq.cell? ⟨B6, 0, none⟩ = some (.int .i64 p.id) := hSw.1.cell 0; clear hSw; go_simp; try with_reducible rfl)
    try simp only [Act.put, List.setIfInBounds_toArray, List.set_cons_zero, List.set_cons_succ]
    refine wpAnyH_take (i := 28) (oi := { dst := some 86, op := Op.pick (Operand.tmp 78) (Operand.tmp 85) (Operand.const (Value.bool false)), type := 4, pos := "law.go:102", after := #[{ on := 20, ground := Ground.data }, { on := 27, ground := Ground.data }], guard := none }) (v := ?v28) rfl (by kernel_rfl) (by kernel_rfl) (by kernel_rfl) (fun _ _ _ h => h) (Or.inl ⟨by rfl, ?hy28⟩) hHeld ?rest28
    case hy28 => (intro wq hSw; have cq : wq.cell? ⟨B6, 0, none⟩ = some (.int .i64 p.id) := hSw.1.cell 0; clear hSw; go_simp; try with_reducible rfl)
    try simp only [Act.put, List.setIfInBounds_toArray, List.set_cons_zero, List.set_cons_succ]
    refine wpAnyH_take (i := 29) (oi := { dst := some 87, op := Op.move (Operand.tmp 86), type := 4, pos := "law.go:102", after := #[{ on := 28, ground := Ground.data }, { on := 20, ground := Ground.chain }], guard := none }) (v := ?v29) rfl (by kernel_rfl) (by kernel_rfl) (by kernel_rfl) (fun _ _ _ h => h) (Or.inl ⟨by rfl, ?hy29⟩) hHeld ?rest29
    case hy29 => (intro wq hSw; have cq : wq.cell? ⟨B6, 0, none⟩ = some (.int .i64 p.id) := hSw.1.cell 0; clear hSw; go_simp; try with_reducible rfl)
    try simp only [Act.put, List.setIfInBounds_toArray, List.set_cons_zero, List.set_cons_succ]
    refine wpAnyH_take (i := 30) (oi := { dst := some 88, op := Op.move (Operand.tmp 13), type := 3, pos := "law.go:102", after := #[{ on := 29, ground := Ground.guard }], guard := some (29, true) }) (v := ?v30) rfl (by kernel_rfl) (by kernel_rfl) (by kernel_rfl) (fun _ _ _ h => h) (Or.inl ⟨by rfl, ?hy30⟩) hHeld ?rest30
    case hy30 => (intro wq hSw; have cq : wq.cell? ⟨B6, 0, none⟩ = some (.int .i64 p.id) := hSw.1.cell 0; clear hSw; go_simp; try with_reducible rfl)
    try simp only [Act.put, List.setIfInBounds_toArray, List.set_cons_zero, List.set_cons_succ]
    refine wpAnyH_take (i := 31) (oi := { dst := some 89, op := Op.fieldAddr 27 (Operand.tmp 6) 0, type := 0, pos := "law.go:102", after := #[{ on := 29, ground := Ground.guard }], guard := some (29, true) }) (v := ?v31) rfl (by kernel_rfl) (by kernel_rfl) (by kernel_rfl) (fun _ _ _ h => h) (Or.inl ⟨by rfl, ?hy31⟩) hHeld ?rest31
    case hy31 => (intro wq hSw; have cq : wq.cell? ⟨B6, 0, none⟩ = some (.int .i64 p.id) := hSw.1.cell 0; clear hSw; go_simp; try with_reducible rfl)
    try simp only [Act.put, List.setIfInBounds_toArray, List.set_cons_zero, List.set_cons_succ]
    refine wpAnyH_take (i := 32) (oi := { dst := some 90, op := Op.load 3 (Operand.tmp 89), type := 3, pos := "law.go:102", after := #[{ on := 31, ground := Ground.data }, { on := 29, ground := Ground.guard }], guard := some (29, true) }) (v := ?v32) rfl (by kernel_rfl) (by kernel_rfl) (by kernel_rfl) (fun _ _ _ h => h) (Or.inl ⟨by rfl, ?hy32⟩) hHeld ?rest32
    case hy32 => (intro wq hSw; have cq : wq.cell? ⟨B6, 0, none⟩ = some (.int .i64 p.id) := hSw.1.cell 0; clear hSw; go_simp; try with_reducible rfl)
    try simp only [Act.put, List.setIfInBounds_toArray, List.set_cons_zero, List.set_cons_succ]
    refine wpAnyH_take (i := 33) (oi := { dst := some 91, op := Op.binOp BinOp.eql 3 (Operand.tmp 88) (Operand.tmp 90) 3, type := 4, pos := "law.go:102", after := #[{ on := 30, ground := Ground.data }, { on := 32, ground := Ground.data }, { on := 29, ground := Ground.guard }], guard := some (29, true) }) (v := ?v33) rfl (by kernel_rfl) (by kernel_rfl) (by kernel_rfl) (fun _ _ _ h => h) (Or.inl ⟨by rfl, ?hy33⟩) hHeld ?rest33
    case hy33 => (intro wq hSw; have cq : wq.cell? ⟨B6, 0, none⟩ = some (.int .i64 p.id) := hSw.1.cell 0; clear hSw; go_simp; try with_reducible rfl)
    try simp only [Act.put, List.setIfInBounds_toArray, List.set_cons_zero, List.set_cons_succ]
    refine wpAnyH_take (i := 34) (oi := { dst := some 92, op := Op.move (Operand.tmp 91), type := 4, pos := "law.go:102", after := #[{ on := 33, ground := Ground.data }, { on := 29, ground := Ground.chain }, { on := 29, ground := Ground.guard }], guard := some (29, true) }) (v := ?v34) rfl (by kernel_rfl) (by kernel_rfl) (by kernel_rfl) (fun _ _ _ h => h) (Or.inl ⟨by rfl, ?hy34⟩) hHeld ?rest34
    case hy34 => (intro wq hSw; have cq : wq.cell? ⟨B6, 0, none⟩ = some (.int .i64 p.id) := hSw.1.cell 0; clear hSw; go_simp; try with_reducible rfl)
    try simp only [Act.put, List.setIfInBounds_toArray, List.set_cons_zero, List.set_cons_succ]
    refine wpAnyH_take (i := 35) (oi := { dst := some 93, op := Op.move (Operand.tmp 15), type := 35, pos := "law.go:102", after := #[{ on := 34, ground := Ground.guard }], guard := some (34, false) }) (v := undef) rfl (by kernel_rfl) (by kernel_rfl) (by kernel_rfl) (fun _ _ _ h => h) (Or.inr ⟨by rfl, rfl⟩) hHeld ?_
    try simp only [Act.put, List.setIfInBounds_toArray, List.set_cons_zero, List.set_cons_succ]
    refine wpAnyH_take (i := 36) (oi := { dst := some 94, op := Op.binOp BinOp.eql 35 (Operand.tmp 93) (Operand.const (Value.int IntKind.i64 6)) 35, type := 4, pos := "law.go:102", after := #[{ on := 35, ground := Ground.data }, { on := 34, ground := Ground.guard }], guard := some (34, false) }) (v := undef) rfl (by kernel_rfl) (by kernel_rfl) (by kernel_rfl) (fun _ _ _ h => h) (Or.inr ⟨by rfl, rfl⟩) hHeld ?_
    try simp only [Act.put, List.setIfInBounds_toArray, List.set_cons_zero, List.set_cons_succ]
    refine wpAnyH_take (i := 37) (oi := { dst := some 95, op := Op.pick (Operand.tmp 92) (Operand.const (Value.bool true)) (Operand.tmp 94), type := 4, pos := "law.go:102", after := #[{ on := 34, ground := Ground.data }, { on := 36, ground := Ground.data }, { on := 29, ground := Ground.guard }], guard := some (29, true) }) (v := ?v37) rfl (by kernel_rfl) (by kernel_rfl) (by kernel_rfl) (fun _ _ _ h => h) (Or.inl ⟨by rfl, ?hy37⟩) hHeld ?rest37
    case hy37 => (intro wq hSw; have cq : wq.cell? ⟨B6, 0, none⟩ = some (.int .i64 p.id) := hSw.1.cell 0; clear hSw; go_simp; try with_reducible rfl)
    try simp only [Act.put, List.setIfInBounds_toArray, List.set_cons_zero, List.set_cons_succ]
    refine wpAnyH_take (i := 38) (oi := { dst := some 96, op := Op.pick (Operand.tmp 87) (Operand.tmp 95) (Operand.const (Value.bool false)), type := 4, pos := "law.go:102", after := #[{ on := 29, ground := Ground.data }, { on := 37, ground := Ground.data }], guard := none }) (v := ?v38) rfl (by kernel_rfl) (by kernel_rfl) (by kernel_rfl) (fun _ _ _ h => h) (Or.inl ⟨by rfl, ?hy38⟩) hHeld ?rest38
    case hy38 => (intro wq hSw; have cq : wq.cell? ⟨B6, 0, none⟩ = some (.int .i64 p.id) := hSw.1.cell 0; clear hSw; go_simp; try with_reducible rfl)
    try simp only [Act.put, List.setIfInBounds_toArray, List.set_cons_zero, List.set_cons_succ]
    refine wpAnyH_take (i := 39) (oi := { dst := some 97, op := Op.move (Operand.tmp 96), type := 4, pos := "law.go:102", after := #[{ on := 38, ground := Ground.data }, { on := 34, ground := Ground.chain }], guard := none }) (v := ?v39) rfl (by kernel_rfl) (by kernel_rfl) (by kernel_rfl) (fun _ _ _ h => h) (Or.inl ⟨by rfl, ?hy39⟩) hHeld ?rest39
    case hy39 => (intro wq hSw; have cq : wq.cell? ⟨B6, 0, none⟩ = some (.int .i64 p.id) := hSw.1.cell 0; clear hSw; go_simp; try with_reducible rfl)
    try simp only [Act.put, List.setIfInBounds_toArray, List.set_cons_zero, List.set_cons_succ]
    refine wpAnyH_take (i := 40) (oi := { dst := some 98, op := Op.move (Operand.tmp 17), type := 35, pos := "law.go:102", after := #[{ on := 39, ground := Ground.guard }], guard := some (39, true) }) (v := ?v40) rfl (by kernel_rfl) (by kernel_rfl) (by kernel_rfl) (fun _ _ _ h => h) (Or.inl ⟨by rfl, ?hy40⟩) hHeld ?rest40
    case hy40 => (intro wq hSw; have cq : wq.cell? ⟨B6, 0, none⟩ = some (.int .i64 p.id) := hSw.1.cell 0; clear hSw; go_simp; try with_reducible rfl)
    try simp only [Act.put, List.setIfInBounds_toArray, List.set_cons_zero, List.set_cons_succ]
    refine wpAnyH_take (i := 41) (oi := { dst := some 99, op := Op.binOp BinOp.eql 35 (Operand.tmp 98) (Operand.const (Value.int IntKind.i64 0)) 35, type := 4, pos := "law.go:102", after := #[{ on := 40, ground := Ground.data }, { on := 39, ground := Ground.guard }], guard := some (39, true) }) (v := ?v41) rfl (by kernel_rfl) (by kernel_rfl) (by kernel_rfl) (fun _ _ _ h => h) (Or.inl ⟨by rfl, ?hy41⟩) hHeld ?rest41
    case hy41 => (intro wq hSw; have cq : wq.cell? ⟨B6, 0, none⟩ = some (.int .i64 p.id) := hSw.1.cell 0; clear hSw; go_simp; try with_reducible rfl)
    try simp only [Act.put, List.setIfInBounds_toArray, List.set_cons_zero, List.set_cons_succ]
    refine wpAnyH_take (i := 42) (oi := { dst := some 100, op := Op.pick (Operand.tmp 97) (Operand.tmp 99) (Operand.const (Value.bool false)), type := 4, pos := "law.go:102", after := #[{ on := 39, ground := Ground.data }, { on := 41, ground := Ground.data }], guard := none }) (v := ?v42) rfl (by kernel_rfl) (by kernel_rfl) (by kernel_rfl) (fun _ _ _ h => h) (Or.inl ⟨by rfl, ?hy42⟩) hHeld ?rest42
    case hy42 => (intro wq hSw; have cq : wq.cell? ⟨B6, 0, none⟩ = some (.int .i64 p.id) := hSw.1.cell 0; clear hSw; go_simp; try with_reducible rfl)
    try simp only [Act.put, List.setIfInBounds_toArray, List.set_cons_zero, List.set_cons_succ]
    refine wpAnyH_take (i := 43) (oi := { dst := some 101, op := Op.move (Operand.tmp 100), type := 4, pos := "law.go:102", after := #[{ on := 42, ground := Ground.data }, { on := 39, ground := Ground.chain }], guard := none }) (v := ?v43) rfl (by kernel_rfl) (by kernel_rfl) (by kernel_rfl) (fun _ _ _ h => h) (Or.inl ⟨by rfl, ?hy43⟩) hHeld ?rest43
    case hy43 => (intro wq hSw; have cq : wq.cell? ⟨B6, 0, none⟩ = some (.int .i64 p.id) := hSw.1.cell 0; clear hSw; go_simp; try with_reducible rfl)
    try simp only [Act.put, List.setIfInBounds_toArray, List.set_cons_zero, List.set_cons_succ]
    refine wpAnyH_take (i := 44) (oi := { dst := some 102, op := Op.load 27 (Operand.tmp 16), type := 27, pos := "law.go:102", after := #[{ on := 43, ground := Ground.guard }], guard := some (43, true) }) rfl (by kernel_rfl) (by kernel_rfl) (by kernel_rfl) (fun _ _ _ h => h) (yieldsIf_load_mid (by rfl) 27 (.tmp 16) rfl B16 0 rfl (pgCells (newPg k)) _ (fun _ h => (h.2.2.2).range) HU.out rfl (info_len HNl.out)) hHeld ?_
    try simp only [Act.put, List.setIfInBounds_toArray, List.set_cons_zero, List.set_cons_succ]
    refine wpAnyH_take (i := 45) (oi := { dst := some 103, op := Op.move (Operand.tmp 13), type := 3, pos := "law.go:102", after := #[{ on := 43, ground := Ground.guard }], guard := some (43, true) }) (v := ?v45) rfl (by kernel_rfl) (by kernel_rfl) (by kernel_rfl) (fun _ _ _ h => h) (Or.inl ⟨by rfl, ?hy45⟩) hHeld ?rest45
    case hy45 => (intro wq hSw; have cq : wq.cell? ⟨B6, 0, none⟩ = some (.int .i64 p.id) := hSw.1.cell 0; clear hSw; go_simp; try with_reducible rfl)
    try simp only [Act.put, List.setIfInBounds_toArray, List.set_cons_zero, List.set_cons_succ]
    refine wpAnyH_ready (rs := [46]) (by kernel_rfl) (by simp) ?_
    refine AllReadyH.cons rfl (fun K hK => ?_) AllReadyH.nil
    go_simp
    go_wp2_with (go_at_call 19; refine (HNk.out _).mono ?_; rintro e w16 ⟨rfl, hb16⟩)
    have HF := Lib.hid (HEd.out.trans (hb16.mono HEd.out.size))
    refine hK.out _ _ ⟨H6d.out.calls hb16, H9d.out.calls hb16, H11d.out.calls hb16, HNd.out.calls hb16⟩ (fun hHeld => ?_)
    clear hK K hb16
    refine wpAnyH_take (i := 47) (oi := { dst := some 105, op := Op.binOp BinOp.eql 27 (Operand.tmp 102) (Operand.tmp 104) 27, type := 4, pos := "law.go:102", after := #[{ on := 44, ground := Ground.data }, { on := 46, ground := Ground.data }, { on := 43, ground := Ground.guard }], guard := some (43, true) }) (v := ?v47) rfl (by kernel_rfl) (by kernel_rfl) (by kernel_rfl) (fun _ _ _ h => h) (Or.inl ⟨by rfl, ?hy47⟩) hHeld ?rest47
    case hy47 => (intro wq hSw; have cq : wq.cell? ⟨B6, 0, none⟩ = some (.int .i64 p.id) := hSw.1.cell 0; clear hSw; go_simp; try with_reducible rfl)
    try simp only [Act.put, List.setIfInBounds_toArray, List.set_cons_zero, List.set_cons_succ]
    refine wpAnyH_take (i := 48) (oi := { dst := some 106, op := Op.pick (Operand.tmp 101) (Operand.tmp 105) (Operand.const (Value.bool false)), type := 4, pos := "law.go:102", after := #[{ on := 43, ground := Ground.data }, { on := 47, ground := Ground.data }], guard := none }) (v := ?v48) rfl (by kernel_rfl) (by kernel_rfl) (by kernel_rfl) (fun _ _ _ h => h) (Or.inl ⟨by rfl, ?hy48⟩) hHeld ?rest48
    case hy48 => (intro wq hSw; have cq : wq.cell? ⟨B6, 0, none⟩ = some (.int .i64 p.id) := hSw.1.cell 0; clear hSw; go_simp; try with_reducible rfl)
    try simp only [Act.put, List.setIfInBounds_toArray, List.set_cons_zero, List.set_cons_succ]
    refine wpAnyH_take (i := 49) (oi := { dst := some 4, op := Op.assign (Operand.tmp 106), type := 4, pos := "law.go:102", after := #[{ on := 48, ground := Ground.data }, { on := 46, ground := Ground.chain }, { on := 0, ground := Ground.phase }, { on := 1, ground := Ground.phase }, { on := 2, ground := Ground.phase }, { on := 3, ground := Ground.phase }, { on := 4, ground := Ground.phase }, { on := 5, ground := Ground.phase }, { on := 6, ground := Ground.phase }, { on := 7, ground := Ground.phase }, { on := 8, ground := Ground.phase }, { on := 9, ground := Ground.phase }, { on := 10, ground := Ground.phase }, { on := 11, ground := Ground.phase }, { on := 12, ground := Ground.phase }, { on := 13, ground := Ground.phase }, { on := 14, ground := Ground.phase }, { on := 15, ground := Ground.phase }, { on := 16, ground := Ground.phase }, { on := 17, ground := Ground.phase }, { on := 18, ground := Ground.phase }, { on := 19, ground := Ground.phase }, { on := 20, ground := Ground.phase }, { on := 21, ground := Ground.phase }, { on := 22, ground := Ground.phase }, { on := 23, ground := Ground.phase }, { on := 24, ground := Ground.phase }, { on := 25, ground := Ground.phase }, { on := 26, ground := Ground.phase }, { on := 27, ground := Ground.phase }, { on := 28, ground := Ground.phase }, { on := 29, ground := Ground.phase }, { on := 30, ground := Ground.phase }, { on := 31, ground := Ground.phase }, { on := 32, ground := Ground.phase }, { on := 33, ground := Ground.phase }, { on := 34, ground := Ground.phase }, { on := 35, ground := Ground.phase }, { on := 36, ground := Ground.phase }, { on := 37, ground := Ground.phase }, { on := 38, ground := Ground.phase }, { on := 39, ground := Ground.phase }, { on := 40, ground := Ground.phase }, { on := 41, ground := Ground.phase }, { on := 42, ground := Ground.phase }, { on := 43, ground := Ground.phase }, { on := 44, ground := Ground.phase }, { on := 45, ground := Ground.phase }, { on := 46, ground := Ground.phase }, { on := 47, ground := Ground.phase }, { on := 48, ground := Ground.phase }], guard := none }) (v := ?v49) rfl (by kernel_rfl) (by kernel_rfl) (by kernel_rfl) (fun _ _ _ h => h) (Or.inl ⟨by rfl, ?hy49⟩) hHeld ?rest49
    case hy49 => (intro wq hSw; have cq : wq.cell? ⟨B6, 0, none⟩ = some (.int .i64 p.id) := hSw.1.cell 0; clear hSw; go_simp; try with_reducible rfl)
    try simp only [Act.put, List.setIfInBounds_toArray, List.set_cons_zero, List.set_cons_succ]
    refine wpAnyH_done (by kernel_rfl) ?_ _
    go_wp2_with fail
    go_ret
    exact ⟨rfl, HF.out⟩
  · have hbk : (k == p.id) = false := by rw [beq_eq_false_iff_ne]; exact Ne.symm h4
    clear h4
    go_wp2_with fail
    refine wp_region_held_drew (S := fun w' => PgIn w' B6 p ∧ PgIn w' B9 p ∧ PgIn w' B11 p ∧ PgIn w' B16 (newPg k)) (by kernel_rfl) ⟨H6d.out, H9d.out, H11d.out, HNd.out⟩ (fun hHeld => ?_)
    refine wpAnyH_take (i := 0) (oi := { dst := some 58, op := Op.move (Operand.tmp 8), type := 35, pos := "law.go:102", after := #[], guard := none }) (v := ?bv0) rfl (by kernel_rfl) (by kernel_rfl) (by kernel_rfl) (fun _ _ _ h => h) (Or.inl ⟨by rfl, ?bhy0⟩) hHeld ?brest0
    case bhy0 => (intro wq hSw; have cq : wq.cell? ⟨B6, 0, none⟩ = some (.int .i64 p.id) := hSw.1.cell 0; clear hSw; go_simp; try with_reducible rfl)
    try simp only [Act.put, List.setIfInBounds_toArray, List.set_cons_zero, List.set_cons_succ]
    refine wpAnyH_take (i := 1) (oi := { dst := some 59, op := Op.binOp BinOp.eql 35 (Operand.tmp 58) (Operand.const (Value.int IntKind.i64 0)) 35, type := 4, pos := "law.go:102", after := #[{ on := 0, ground := Ground.data }], guard := none }) (v := ?bv1) rfl (by kernel_rfl) (by kernel_rfl) (by kernel_rfl) (fun _ _ _ h => h) (Or.inl ⟨by rfl, ?bhy1⟩) hHeld ?brest1
    case bhy1 => (intro wq hSw; have cq : wq.cell? ⟨B6, 0, none⟩ = some (.int .i64 p.id) := hSw.1.cell 0; clear hSw; go_simp; try with_reducible rfl)
    try simp only [Act.put, List.setIfInBounds_toArray, List.set_cons_zero, List.set_cons_succ]
    refine wpAnyH_take (i := 2) (oi := { dst := some 60, op := Op.move (Operand.tmp 59), type := 4, pos := "law.go:102", after := #[{ on := 1, ground := Ground.data }], guard := none }) (v := ?bv2) rfl (by kernel_rfl) (by kernel_rfl) (by kernel_rfl) (fun _ _ _ h => h) (Or.inl ⟨by rfl, ?bhy2⟩) hHeld ?brest2
    case bhy2 => (intro wq hSw; have cq : wq.cell? ⟨B6, 0, none⟩ = some (.int .i64 p.id) := hSw.1.cell 0; clear hSw; go_simp; try with_reducible rfl)
    try simp only [Act.put, List.setIfInBounds_toArray, List.set_cons_zero, List.set_cons_succ]
    refine wpAnyH_take (i := 3) (oi := { dst := some 61, op := Op.move (Operand.tmp 10), type := 35, pos := "law.go:102", after := #[{ on := 2, ground := Ground.guard }], guard := some (2, true) }) (v := ?bv3) rfl (by kernel_rfl) (by kernel_rfl) (by kernel_rfl) (fun _ _ _ h => h) (Or.inl ⟨by rfl, ?bhy3⟩) hHeld ?brest3
    case bhy3 => (intro wq hSw; have cq : wq.cell? ⟨B6, 0, none⟩ = some (.int .i64 p.id) := hSw.1.cell 0; clear hSw; go_simp; try with_reducible rfl)
    try simp only [Act.put, List.setIfInBounds_toArray, List.set_cons_zero, List.set_cons_succ]
    refine wpAnyH_take (i := 4) (oi := { dst := some 62, op := Op.binOp BinOp.eql 35 (Operand.tmp 61) (Operand.const (Value.int IntKind.i64 0)) 35, type := 4, pos := "law.go:102", after := #[{ on := 3, ground := Ground.data }, { on := 2, ground := Ground.guard }], guard := some (2, true) }) (v := ?bv4) rfl (by kernel_rfl) (by kernel_rfl) (by kernel_rfl) (fun _ _ _ h => h) (Or.inl ⟨by rfl, ?bhy4⟩) hHeld ?brest4
    case bhy4 => (intro wq hSw; have cq : wq.cell? ⟨B6, 0, none⟩ = some (.int .i64 p.id) := hSw.1.cell 0; clear hSw; go_simp; try with_reducible rfl)
    try simp only [Act.put, List.setIfInBounds_toArray, List.set_cons_zero, List.set_cons_succ]
    refine wpAnyH_take (i := 5) (oi := { dst := some 63, op := Op.pick (Operand.tmp 60) (Operand.tmp 62) (Operand.const (Value.bool false)), type := 4, pos := "law.go:102", after := #[{ on := 2, ground := Ground.data }, { on := 4, ground := Ground.data }], guard := none }) (v := ?bv5) rfl (by kernel_rfl) (by kernel_rfl) (by kernel_rfl) (fun _ _ _ h => h) (Or.inl ⟨by rfl, ?bhy5⟩) hHeld ?brest5
    case bhy5 => (intro wq hSw; have cq : wq.cell? ⟨B6, 0, none⟩ = some (.int .i64 p.id) := hSw.1.cell 0; clear hSw; go_simp; try with_reducible rfl)
    try simp only [Act.put, List.setIfInBounds_toArray, List.set_cons_zero, List.set_cons_succ]
    refine wpAnyH_take (i := 6) (oi := { dst := some 64, op := Op.move (Operand.tmp 63), type := 4, pos := "law.go:102", after := #[{ on := 5, ground := Ground.data }, { on := 2, ground := Ground.chain }], guard := none }) (v := ?bv6) rfl (by kernel_rfl) (by kernel_rfl) (by kernel_rfl) (fun _ _ _ h => h) (Or.inl ⟨by rfl, ?bhy6⟩) hHeld ?brest6
    case bhy6 => (intro wq hSw; have cq : wq.cell? ⟨B6, 0, none⟩ = some (.int .i64 p.id) := hSw.1.cell 0; clear hSw; go_simp; try with_reducible rfl)
    try simp only [Act.put, List.setIfInBounds_toArray, List.set_cons_zero, List.set_cons_succ]
    refine wpAnyH_take (i := 7) (oi := { dst := some 65, op := Op.move (Operand.tmp 12), type := 35, pos := "law.go:102", after := #[{ on := 6, ground := Ground.guard }], guard := some (6, true) }) (v := ?bv7) rfl (by kernel_rfl) (by kernel_rfl) (by kernel_rfl) (fun _ _ _ h => h) (Or.inl ⟨by rfl, ?bhy7⟩) hHeld ?brest7
    case bhy7 => (intro wq hSw; have cq : wq.cell? ⟨B6, 0, none⟩ = some (.int .i64 p.id) := hSw.1.cell 0; clear hSw; go_simp; try with_reducible rfl)
    try simp only [Act.put, List.setIfInBounds_toArray, List.set_cons_zero, List.set_cons_succ]
    refine wpAnyH_take (i := 8) (oi := { dst := some 66, op := Op.binOp BinOp.eql 35 (Operand.tmp 65) (Operand.const (Value.int IntKind.i64 0)) 35, type := 4, pos := "law.go:102", after := #[{ on := 7, ground := Ground.data }, { on := 6, ground := Ground.guard }], guard := some (6, true) }) (v := ?bv8) rfl (by kernel_rfl) (by kernel_rfl) (by kernel_rfl) (fun _ _ _ h => h) (Or.inl ⟨by rfl, ?bhy8⟩) hHeld ?brest8
    case bhy8 => (intro wq hSw; have cq : wq.cell? ⟨B6, 0, none⟩ = some (.int .i64 p.id) := hSw.1.cell 0; clear hSw; go_simp; try with_reducible rfl)
    try simp only [Act.put, List.setIfInBounds_toArray, List.set_cons_zero, List.set_cons_succ]
    refine wpAnyH_take (i := 9) (oi := { dst := some 67, op := Op.pick (Operand.tmp 64) (Operand.tmp 66) (Operand.const (Value.bool false)), type := 4, pos := "law.go:102", after := #[{ on := 6, ground := Ground.data }, { on := 8, ground := Ground.data }], guard := none }) (v := ?bv9) rfl (by kernel_rfl) (by kernel_rfl) (by kernel_rfl) (fun _ _ _ h => h) (Or.inl ⟨by rfl, ?bhy9⟩) hHeld ?brest9
    case bhy9 => (intro wq hSw; have cq : wq.cell? ⟨B6, 0, none⟩ = some (.int .i64 p.id) := hSw.1.cell 0; clear hSw; go_simp; try with_reducible rfl)
    try simp only [Act.put, List.setIfInBounds_toArray, List.set_cons_zero, List.set_cons_succ]
    refine wpAnyH_take (i := 10) (oi := { dst := some 68, op := Op.move (Operand.tmp 67), type := 4, pos := "law.go:102", after := #[{ on := 9, ground := Ground.data }, { on := 6, ground := Ground.chain }], guard := none }) (v := ?bv10) rfl (by kernel_rfl) (by kernel_rfl) (by kernel_rfl) (fun _ _ _ h => h) (Or.inl ⟨by rfl, ?bhy10⟩) hHeld ?brest10
    case bhy10 => (intro wq hSw; have cq : wq.cell? ⟨B6, 0, none⟩ = some (.int .i64 p.id) := hSw.1.cell 0; clear hSw; go_simp; try with_reducible rfl)
    try simp only [Act.put, List.setIfInBounds_toArray, List.set_cons_zero, List.set_cons_succ]
    refine wpAnyH_take (i := 11) (oi := { dst := some 69, op := Op.load 27 (Operand.tmp 6), type := 27, pos := "law.go:102", after := #[{ on := 10, ground := Ground.guard }], guard := some (10, true) }) rfl (by kernel_rfl) (by kernel_rfl) (by kernel_rfl) (fun _ _ _ h => h) (yieldsIf_load_mid (by rfl) 27 (.tmp 6) rfl B6 0 rfl (pgCells p) _ (fun _ h => (h.1).range) HU.out rfl (info_len HPl.out)) hHeld ?_
    try simp only [Act.put, List.setIfInBounds_toArray, List.set_cons_zero, List.set_cons_succ]
    refine wpAnyH_take (i := 12) (oi := { dst := some 70, op := Op.load 27 (Operand.tmp 9), type := 27, pos := "law.go:102", after := #[{ on := 10, ground := Ground.guard }], guard := some (10, true) }) rfl (by kernel_rfl) (by kernel_rfl) (by kernel_rfl) (fun _ _ _ h => h) (yieldsIf_load_mid (by rfl) 27 (.tmp 9) rfl B9 0 rfl (pgCells p) _ (fun _ h => (h.2.1).range) HU.out rfl (info_len HPl.out)) hHeld ?_
    try simp only [Act.put, List.setIfInBounds_toArray, List.set_cons_zero, List.set_cons_succ]
    refine wpAnyH_take (i := 13) (oi := { dst := some 71, op := Op.binOp BinOp.eql 27 (Operand.tmp 69) (Operand.tmp 70) 27, type := 4, pos := "law.go:102", after := #[{ on := 11, ground := Ground.data }, { on := 12, ground := Ground.data }, { on := 10, ground := Ground.guard }], guard := some (10, true) }) (v := ?bv13) rfl (by kernel_rfl) (by kernel_rfl) (by kernel_rfl) (fun _ _ _ h => h) (Or.inl ⟨by rfl, ?bhy13⟩) hHeld ?brest13
    case bhy13 => (intro wq hSw; have cq : wq.cell? ⟨B6, 0, none⟩ = some (.int .i64 p.id) := hSw.1.cell 0; clear hSw; go_simp; try with_reducible rfl)
    try simp only [Act.put, List.setIfInBounds_toArray, List.set_cons_zero, List.set_cons_succ]
    refine wpAnyH_take (i := 14) (oi := { dst := some 72, op := Op.pick (Operand.tmp 68) (Operand.tmp 71) (Operand.const (Value.bool false)), type := 4, pos := "law.go:102", after := #[{ on := 10, ground := Ground.data }, { on := 13, ground := Ground.data }], guard := none }) (v := ?bv14) rfl (by kernel_rfl) (by kernel_rfl) (by kernel_rfl) (fun _ _ _ h => h) (Or.inl ⟨by rfl, ?bhy14⟩) hHeld ?brest14
    case bhy14 => (intro wq hSw; have cq : wq.cell? ⟨B6, 0, none⟩ = some (.int .i64 p.id) := hSw.1.cell 0; clear hSw; go_simp; try with_reducible rfl)
    try simp only [Act.put, List.setIfInBounds_toArray, List.set_cons_zero, List.set_cons_succ]
    refine wpAnyH_take (i := 15) (oi := { dst := some 73, op := Op.move (Operand.tmp 72), type := 4, pos := "law.go:102", after := #[{ on := 14, ground := Ground.data }, { on := 10, ground := Ground.chain }], guard := none }) (v := ?bv15) rfl (by kernel_rfl) (by kernel_rfl) (by kernel_rfl) (fun _ _ _ h => h) (Or.inl ⟨by rfl, ?bhy15⟩) hHeld ?brest15
    case bhy15 => (intro wq hSw; have cq : wq.cell? ⟨B6, 0, none⟩ = some (.int .i64 p.id) := hSw.1.cell 0; clear hSw; go_simp; try with_reducible rfl)
    try simp only [Act.put, List.setIfInBounds_toArray, List.set_cons_zero, List.set_cons_succ]
    refine wpAnyH_take (i := 16) (oi := { dst := some 74, op := Op.load 27 (Operand.tmp 6), type := 27, pos := "law.go:102", after := #[{ on := 15, ground := Ground.guard }], guard := some (15, true) }) rfl (by kernel_rfl) (by kernel_rfl) (by kernel_rfl) (fun _ _ _ h => h) (yieldsIf_load_mid (by rfl) 27 (.tmp 6) rfl B6 0 rfl (pgCells p) _ (fun _ h => (h.1).range) HU.out rfl (info_len HPl.out)) hHeld ?_
    try simp only [Act.put, List.setIfInBounds_toArray, List.set_cons_zero, List.set_cons_succ]
    refine wpAnyH_take (i := 17) (oi := { dst := some 75, op := Op.load 27 (Operand.tmp 11), type := 27, pos := "law.go:102", after := #[{ on := 15, ground := Ground.guard }], guard := some (15, true) }) rfl (by kernel_rfl) (by kernel_rfl) (by kernel_rfl) (fun _ _ _ h => h) (yieldsIf_load_mid (by rfl) 27 (.tmp 11) rfl B11 0 rfl (pgCells p) _ (fun _ h => (h.2.2.1).range) HU.out rfl (info_len HPl.out)) hHeld ?_
    try simp only [Act.put, List.setIfInBounds_toArray, List.set_cons_zero, List.set_cons_succ]
    refine wpAnyH_take (i := 18) (oi := { dst := some 76, op := Op.binOp BinOp.eql 27 (Operand.tmp 74) (Operand.tmp 75) 27, type := 4, pos := "law.go:102", after := #[{ on := 16, ground := Ground.data }, { on := 17, ground := Ground.data }, { on := 15, ground := Ground.guard }], guard := some (15, true) }) (v := ?bv18) rfl (by kernel_rfl) (by kernel_rfl) (by kernel_rfl) (fun _ _ _ h => h) (Or.inl ⟨by rfl, ?bhy18⟩) hHeld ?brest18
    case bhy18 => (intro wq hSw; have cq : wq.cell? ⟨B6, 0, none⟩ = some (.int .i64 p.id) := hSw.1.cell 0; clear hSw; go_simp; try with_reducible rfl)
    try simp only [Act.put, List.setIfInBounds_toArray, List.set_cons_zero, List.set_cons_succ]
    refine wpAnyH_take (i := 19) (oi := { dst := some 77, op := Op.pick (Operand.tmp 73) (Operand.tmp 76) (Operand.const (Value.bool false)), type := 4, pos := "law.go:102", after := #[{ on := 15, ground := Ground.data }, { on := 18, ground := Ground.data }], guard := none }) (v := ?bv19) rfl (by kernel_rfl) (by kernel_rfl) (by kernel_rfl) (fun _ _ _ h => h) (Or.inl ⟨by rfl, ?bhy19⟩) hHeld ?brest19
    case bhy19 => (intro wq hSw; have cq : wq.cell? ⟨B6, 0, none⟩ = some (.int .i64 p.id) := hSw.1.cell 0; clear hSw; go_simp; try with_reducible rfl)
    try simp only [Act.put, List.setIfInBounds_toArray, List.set_cons_zero, List.set_cons_succ]
    refine wpAnyH_take (i := 20) (oi := { dst := some 78, op := Op.move (Operand.tmp 77), type := 4, pos := "law.go:102", after := #[{ on := 19, ground := Ground.data }, { on := 15, ground := Ground.chain }], guard := none }) (v := ?bv20) rfl (by kernel_rfl) (by kernel_rfl) (by kernel_rfl) (fun _ _ _ h => h) (Or.inl ⟨by rfl, ?bhy20⟩) hHeld ?brest20
    case bhy20 => (intro wq hSw; have cq : wq.cell? ⟨B6, 0, none⟩ = some (.int .i64 p.id) := hSw.1.cell 0; clear hSw; go_simp; try with_reducible rfl)
    try simp only [Act.put, List.setIfInBounds_toArray, List.set_cons_zero, List.set_cons_succ]
    refine wpAnyH_take (i := 21) (oi := { dst := some 79, op := Op.move (Operand.tmp 15), type := 35, pos := "law.go:102", after := #[{ on := 20, ground := Ground.guard }], guard := some (20, true) }) (v := ?bv21) rfl (by kernel_rfl) (by kernel_rfl) (by kernel_rfl) (fun _ _ _ h => h) (Or.inl ⟨by rfl, ?bhy21⟩) hHeld ?brest21
    case bhy21 => (intro wq hSw; have cq : wq.cell? ⟨B6, 0, none⟩ = some (.int .i64 p.id) := hSw.1.cell 0; clear hSw; go_simp; try with_reducible rfl)
    try simp only [Act.put, List.setIfInBounds_toArray, List.set_cons_zero, List.set_cons_succ]
    refine wpAnyH_take (i := 22) (oi := { dst := some 80, op := Op.binOp BinOp.eql 35 (Operand.tmp 79) (Operand.const (Value.int IntKind.i64 0)) 35, type := 4, pos := "law.go:102", after := #[{ on := 21, ground := Ground.data }, { on := 20, ground := Ground.guard }], guard := some (20, true) }) (v := ?bv22) rfl (by kernel_rfl) (by kernel_rfl) (by kernel_rfl) (fun _ _ _ h => h) (Or.inl ⟨by rfl, ?bhy22⟩) hHeld ?brest22
    case bhy22 => (intro wq hSw; have cq : wq.cell? ⟨B6, 0, none⟩ = some (.int .i64 p.id) := hSw.1.cell 0; clear hSw; go_simp; try with_reducible rfl)
    try simp only [Act.put, List.setIfInBounds_toArray, List.set_cons_zero, List.set_cons_succ]
    refine wpAnyH_take (i := 23) (oi := { dst := some 81, op := Op.move (Operand.tmp 13), type := 3, pos := "law.go:102", after := #[{ on := 20, ground := Ground.guard }], guard := some (20, true) }) (v := ?bv23) rfl (by kernel_rfl) (by kernel_rfl) (by kernel_rfl) (fun _ _ _ h => h) (Or.inl ⟨by rfl, ?bhy23⟩) hHeld ?brest23
    case bhy23 => (intro wq hSw; have cq : wq.cell? ⟨B6, 0, none⟩ = some (.int .i64 p.id) := hSw.1.cell 0; clear hSw; go_simp; try with_reducible rfl)
    try simp only [Act.put, List.setIfInBounds_toArray, List.set_cons_zero, List.set_cons_succ]
    refine wpAnyH_take (i := 24) (oi := { dst := some 82, op := Op.fieldAddr 27 (Operand.tmp 6) 0, type := 0, pos := "law.go:102", after := #[{ on := 20, ground := Ground.guard }], guard := some (20, true) }) (v := ?bv24) rfl (by kernel_rfl) (by kernel_rfl) (by kernel_rfl) (fun _ _ _ h => h) (Or.inl ⟨by rfl, ?bhy24⟩) hHeld ?brest24
    case bhy24 => (intro wq hSw; have cq : wq.cell? ⟨B6, 0, none⟩ = some (.int .i64 p.id) := hSw.1.cell 0; clear hSw; go_simp; try with_reducible rfl)
    try simp only [Act.put, List.setIfInBounds_toArray, List.set_cons_zero, List.set_cons_succ]
    refine wpAnyH_take (i := 25) (oi := { dst := some 83, op := Op.load 3 (Operand.tmp 82), type := 3, pos := "law.go:102", after := #[{ on := 24, ground := Ground.data }, { on := 20, ground := Ground.guard }], guard := some (20, true) }) (v := ?bv25) rfl (by kernel_rfl) (by kernel_rfl) (by kernel_rfl) (fun _ _ _ h => h) (Or.inl ⟨by rfl, ?bhy25⟩) hHeld ?brest25
    case bhy25 => (intro wq hSw; have cq : wq.cell? ⟨B6, 0, none⟩ = some (.int .i64 p.id) := hSw.1.cell 0; clear hSw; go_simp; try with_reducible rfl)
    try simp only [Act.put, List.setIfInBounds_toArray, List.set_cons_zero, List.set_cons_succ]
    refine wpAnyH_take (i := 26) (oi := { dst := some 84, op := Op.binOp BinOp.eql 3 (Operand.tmp 81) (Operand.tmp 83) 3, type := 4, pos := "law.go:102", after := #[{ on := 23, ground := Ground.data }, { on := 25, ground := Ground.data }, { on := 20, ground := Ground.guard }], guard := some (20, true) }) (v := ?bv26) rfl (by kernel_rfl) (by kernel_rfl) (by kernel_rfl) (fun _ _ _ h => h) (Or.inl ⟨by rfl, ?bhy26⟩) hHeld ?brest26
    case bhy26 => (intro wq hSw; have cq : wq.cell? ⟨B6, 0, none⟩ = some (.int .i64 p.id) := hSw.1.cell 0; clear hSw; go_simp; try with_reducible rfl)
    try simp only [Act.put, List.setIfInBounds_toArray, List.set_cons_zero, List.set_cons_succ]
    refine wpAnyH_take (i := 27) (oi := { dst := some 85, op := Op.binOp BinOp.eql 4 (Operand.tmp 80) (Operand.tmp 84) 4, type := 4, pos := "law.go:102", after := #[{ on := 22, ground := Ground.data }, { on := 26, ground := Ground.data }, { on := 20, ground := Ground.guard }], guard := some (20, true) }) (v := ?bv27) rfl (by kernel_rfl) (by kernel_rfl) (by kernel_rfl) (fun _ _ _ h => h) (Or.inl ⟨by rfl, ?bhy27⟩) hHeld ?brest27
    case bhy27 => (intro wq hSw; have cq : wq.cell? ⟨B6, 0, none⟩ = some (.int .i64 p.id) := hSw.1.cell 0; clear hSw; go_simp; try with_reducible rfl)
    try simp only [Act.put, List.setIfInBounds_toArray, List.set_cons_zero, List.set_cons_succ]
    refine wpAnyH_take (i := 28) (oi := { dst := some 86, op := Op.pick (Operand.tmp 78) (Operand.tmp 85) (Operand.const (Value.bool false)), type := 4, pos := "law.go:102", after := #[{ on := 20, ground := Ground.data }, { on := 27, ground := Ground.data }], guard := none }) (v := ?bv28) rfl (by kernel_rfl) (by kernel_rfl) (by kernel_rfl) (fun _ _ _ h => h) (Or.inl ⟨by rfl, ?bhy28⟩) hHeld ?brest28
    case bhy28 => (intro wq hSw; have cq : wq.cell? ⟨B6, 0, none⟩ = some (.int .i64 p.id) := hSw.1.cell 0; clear hSw; go_simp; try with_reducible rfl)
    try simp only [Act.put, List.setIfInBounds_toArray, List.set_cons_zero, List.set_cons_succ]
    refine wpAnyH_take (i := 29) (oi := { dst := some 87, op := Op.move (Operand.tmp 86), type := 4, pos := "law.go:102", after := #[{ on := 28, ground := Ground.data }, { on := 20, ground := Ground.chain }], guard := none }) (v := ?bv29) rfl (by kernel_rfl) (by kernel_rfl) (by kernel_rfl) (fun _ _ _ h => h) (Or.inl ⟨by rfl, ?bhy29⟩) hHeld ?brest29
    case bhy29 => (intro wq hSw; have cq : wq.cell? ⟨B6, 0, none⟩ = some (.int .i64 p.id) := hSw.1.cell 0; clear hSw; go_simp; try with_reducible rfl)
    try simp only [Act.put, List.setIfInBounds_toArray, List.set_cons_zero, List.set_cons_succ]
    refine wpAnyH_take (i := 30) (oi := { dst := some 88, op := Op.move (Operand.tmp 13), type := 3, pos := "law.go:102", after := #[{ on := 29, ground := Ground.guard }], guard := some (29, true) }) (v := ?bv30) rfl (by kernel_rfl) (by kernel_rfl) (by kernel_rfl) (fun _ _ _ h => h) (Or.inl ⟨by rfl, ?bhy30⟩) hHeld ?brest30
    case bhy30 => (intro wq hSw; have cq : wq.cell? ⟨B6, 0, none⟩ = some (.int .i64 p.id) := hSw.1.cell 0; clear hSw; go_simp; try with_reducible rfl)
    try simp only [Act.put, List.setIfInBounds_toArray, List.set_cons_zero, List.set_cons_succ]
    refine wpAnyH_take (i := 31) (oi := { dst := some 89, op := Op.fieldAddr 27 (Operand.tmp 6) 0, type := 0, pos := "law.go:102", after := #[{ on := 29, ground := Ground.guard }], guard := some (29, true) }) (v := ?bv31) rfl (by kernel_rfl) (by kernel_rfl) (by kernel_rfl) (fun _ _ _ h => h) (Or.inl ⟨by rfl, ?bhy31⟩) hHeld ?brest31
    case bhy31 => (intro wq hSw; have cq : wq.cell? ⟨B6, 0, none⟩ = some (.int .i64 p.id) := hSw.1.cell 0; clear hSw; go_simp; try with_reducible rfl)
    try simp only [Act.put, List.setIfInBounds_toArray, List.set_cons_zero, List.set_cons_succ]
    refine wpAnyH_take (i := 32) (oi := { dst := some 90, op := Op.load 3 (Operand.tmp 89), type := 3, pos := "law.go:102", after := #[{ on := 31, ground := Ground.data }, { on := 29, ground := Ground.guard }], guard := some (29, true) }) (v := ?bv32) rfl (by kernel_rfl) (by kernel_rfl) (by kernel_rfl) (fun _ _ _ h => h) (Or.inl ⟨by rfl, ?bhy32⟩) hHeld ?brest32
    case bhy32 => (intro wq hSw; have cq : wq.cell? ⟨B6, 0, none⟩ = some (.int .i64 p.id) := hSw.1.cell 0; clear hSw; go_simp; try with_reducible rfl)
    try simp only [Act.put, List.setIfInBounds_toArray, List.set_cons_zero, List.set_cons_succ]
    refine wpAnyH_take (i := 33) (oi := { dst := some 91, op := Op.binOp BinOp.eql 3 (Operand.tmp 88) (Operand.tmp 90) 3, type := 4, pos := "law.go:102", after := #[{ on := 30, ground := Ground.data }, { on := 32, ground := Ground.data }, { on := 29, ground := Ground.guard }], guard := some (29, true) }) (v := ?bv33) rfl (by kernel_rfl) (by kernel_rfl) (by kernel_rfl) (fun _ _ _ h => h) (Or.inl ⟨by rfl, ?bhy33⟩) hHeld ?brest33
    case bhy33 => (intro wq hSw; have cq : wq.cell? ⟨B6, 0, none⟩ = some (.int .i64 p.id) := hSw.1.cell 0; clear hSw; go_simp; try with_reducible rfl)
    try simp only [Act.put, List.setIfInBounds_toArray, List.set_cons_zero, List.set_cons_succ]
    refine wpAnyH_take (i := 34) (oi := { dst := some 92, op := Op.move (Operand.tmp 91), type := 4, pos := "law.go:102", after := #[{ on := 33, ground := Ground.data }, { on := 29, ground := Ground.chain }, { on := 29, ground := Ground.guard }], guard := some (29, true) }) (v := ?bv34) rfl (by kernel_rfl) (by kernel_rfl) (by kernel_rfl) (fun _ _ _ h => h) (Or.inl ⟨by rfl, ?bhy34⟩) hHeld ?brest34
    case bhy34 => (intro wq hSw; have cq : wq.cell? ⟨B6, 0, none⟩ = some (.int .i64 p.id) := hSw.1.cell 0; clear hSw; go_simp; try with_reducible rfl)
    try simp only [Act.put, List.setIfInBounds_toArray, List.set_cons_zero, List.set_cons_succ]
    refine wpAnyH_take (i := 35) (oi := { dst := some 93, op := Op.move (Operand.tmp 15), type := 35, pos := "law.go:102", after := #[{ on := 34, ground := Ground.guard }], guard := some (34, false) }) (v := ?bv35) rfl (by kernel_rfl) (by kernel_rfl) (by kernel_rfl) (fun _ _ _ h => h) (Or.inl ⟨by rfl, ?bhy35⟩) hHeld ?brest35
    case bhy35 => (intro wq hSw; have cq : wq.cell? ⟨B6, 0, none⟩ = some (.int .i64 p.id) := hSw.1.cell 0; clear hSw; go_simp; try with_reducible rfl)
    try simp only [Act.put, List.setIfInBounds_toArray, List.set_cons_zero, List.set_cons_succ]
    refine wpAnyH_take (i := 36) (oi := { dst := some 94, op := Op.binOp BinOp.eql 35 (Operand.tmp 93) (Operand.const (Value.int IntKind.i64 6)) 35, type := 4, pos := "law.go:102", after := #[{ on := 35, ground := Ground.data }, { on := 34, ground := Ground.guard }], guard := some (34, false) }) (v := ?bv36) rfl (by kernel_rfl) (by kernel_rfl) (by kernel_rfl) (fun _ _ _ h => h) (Or.inl ⟨by rfl, ?bhy36⟩) hHeld ?brest36
    case bhy36 => (intro wq hSw; have cq : wq.cell? ⟨B6, 0, none⟩ = some (.int .i64 p.id) := hSw.1.cell 0; clear hSw; go_simp; try with_reducible rfl)
    try simp only [Act.put, List.setIfInBounds_toArray, List.set_cons_zero, List.set_cons_succ]
    refine wpAnyH_take (i := 37) (oi := { dst := some 95, op := Op.pick (Operand.tmp 92) (Operand.const (Value.bool true)) (Operand.tmp 94), type := 4, pos := "law.go:102", after := #[{ on := 34, ground := Ground.data }, { on := 36, ground := Ground.data }, { on := 29, ground := Ground.guard }], guard := some (29, true) }) (v := ?bv37) rfl (by kernel_rfl) (by kernel_rfl) (by kernel_rfl) (fun _ _ _ h => h) (Or.inl ⟨by rfl, ?bhy37⟩) hHeld ?brest37
    case bhy37 => (intro wq hSw; have cq : wq.cell? ⟨B6, 0, none⟩ = some (.int .i64 p.id) := hSw.1.cell 0; clear hSw; go_simp; try with_reducible rfl)
    try simp only [Act.put, List.setIfInBounds_toArray, List.set_cons_zero, List.set_cons_succ]
    refine wpAnyH_take (i := 38) (oi := { dst := some 96, op := Op.pick (Operand.tmp 87) (Operand.tmp 95) (Operand.const (Value.bool false)), type := 4, pos := "law.go:102", after := #[{ on := 29, ground := Ground.data }, { on := 37, ground := Ground.data }], guard := none }) (v := ?bv38) rfl (by kernel_rfl) (by kernel_rfl) (by kernel_rfl) (fun _ _ _ h => h) (Or.inl ⟨by rfl, ?bhy38⟩) hHeld ?brest38
    case bhy38 => (intro wq hSw; have cq : wq.cell? ⟨B6, 0, none⟩ = some (.int .i64 p.id) := hSw.1.cell 0; clear hSw; go_simp; try with_reducible rfl)
    try simp only [Act.put, List.setIfInBounds_toArray, List.set_cons_zero, List.set_cons_succ]
    refine wpAnyH_take (i := 39) (oi := { dst := some 97, op := Op.move (Operand.tmp 96), type := 4, pos := "law.go:102", after := #[{ on := 38, ground := Ground.data }, { on := 34, ground := Ground.chain }], guard := none }) (v := ?bv39) rfl (by kernel_rfl) (by kernel_rfl) (by kernel_rfl) (fun _ _ _ h => h) (Or.inl ⟨by rfl, ?bhy39⟩) hHeld ?brest39
    case bhy39 => (intro wq hSw; have cq : wq.cell? ⟨B6, 0, none⟩ = some (.int .i64 p.id) := hSw.1.cell 0; clear hSw; go_simp; try with_reducible rfl)
    try simp only [Act.put, List.setIfInBounds_toArray, List.set_cons_zero, List.set_cons_succ]
    refine wpAnyH_take (i := 40) (oi := { dst := some 98, op := Op.move (Operand.tmp 17), type := 35, pos := "law.go:102", after := #[{ on := 39, ground := Ground.guard }], guard := some (39, true) }) (v := ?bv40) rfl (by kernel_rfl) (by kernel_rfl) (by kernel_rfl) (fun _ _ _ h => h) (Or.inl ⟨by rfl, ?bhy40⟩) hHeld ?brest40
    case bhy40 => (intro wq hSw; have cq : wq.cell? ⟨B6, 0, none⟩ = some (.int .i64 p.id) := hSw.1.cell 0; clear hSw; go_simp; try with_reducible rfl)
    try simp only [Act.put, List.setIfInBounds_toArray, List.set_cons_zero, List.set_cons_succ]
    refine wpAnyH_take (i := 41) (oi := { dst := some 99, op := Op.binOp BinOp.eql 35 (Operand.tmp 98) (Operand.const (Value.int IntKind.i64 0)) 35, type := 4, pos := "law.go:102", after := #[{ on := 40, ground := Ground.data }, { on := 39, ground := Ground.guard }], guard := some (39, true) }) (v := ?bv41) rfl (by kernel_rfl) (by kernel_rfl) (by kernel_rfl) (fun _ _ _ h => h) (Or.inl ⟨by rfl, ?bhy41⟩) hHeld ?brest41
    case bhy41 => (intro wq hSw; have cq : wq.cell? ⟨B6, 0, none⟩ = some (.int .i64 p.id) := hSw.1.cell 0; clear hSw; go_simp; try with_reducible rfl)
    try simp only [Act.put, List.setIfInBounds_toArray, List.set_cons_zero, List.set_cons_succ]
    refine wpAnyH_take (i := 42) (oi := { dst := some 100, op := Op.pick (Operand.tmp 97) (Operand.tmp 99) (Operand.const (Value.bool false)), type := 4, pos := "law.go:102", after := #[{ on := 39, ground := Ground.data }, { on := 41, ground := Ground.data }], guard := none }) (v := ?bv42) rfl (by kernel_rfl) (by kernel_rfl) (by kernel_rfl) (fun _ _ _ h => h) (Or.inl ⟨by rfl, ?bhy42⟩) hHeld ?brest42
    case bhy42 => (intro wq hSw; have cq : wq.cell? ⟨B6, 0, none⟩ = some (.int .i64 p.id) := hSw.1.cell 0; clear hSw; go_simp; try with_reducible rfl)
    try simp only [Act.put, List.setIfInBounds_toArray, List.set_cons_zero, List.set_cons_succ]
    refine wpAnyH_take (i := 43) (oi := { dst := some 101, op := Op.move (Operand.tmp 100), type := 4, pos := "law.go:102", after := #[{ on := 42, ground := Ground.data }, { on := 39, ground := Ground.chain }], guard := none }) (v := ?bv43) rfl (by kernel_rfl) (by kernel_rfl) (by kernel_rfl) (fun _ _ _ h => h) (Or.inl ⟨by rfl, ?bhy43⟩) hHeld ?brest43
    case bhy43 => (intro wq hSw; have cq : wq.cell? ⟨B6, 0, none⟩ = some (.int .i64 p.id) := hSw.1.cell 0; clear hSw; go_simp; try with_reducible rfl)
    try simp only [Act.put, List.setIfInBounds_toArray, List.set_cons_zero, List.set_cons_succ]
    refine wpAnyH_take (i := 44) (oi := { dst := some 102, op := Op.load 27 (Operand.tmp 16), type := 27, pos := "law.go:102", after := #[{ on := 43, ground := Ground.guard }], guard := some (43, true) }) rfl (by kernel_rfl) (by kernel_rfl) (by kernel_rfl) (fun _ _ _ h => h) (yieldsIf_load_mid (by rfl) 27 (.tmp 16) rfl B16 0 rfl (pgCells (newPg k)) _ (fun _ h => (h.2.2.2).range) HU.out rfl (info_len HNl.out)) hHeld ?_
    try simp only [Act.put, List.setIfInBounds_toArray, List.set_cons_zero, List.set_cons_succ]
    refine wpAnyH_take (i := 45) (oi := { dst := some 103, op := Op.move (Operand.tmp 13), type := 3, pos := "law.go:102", after := #[{ on := 43, ground := Ground.guard }], guard := some (43, true) }) (v := ?bv45) rfl (by kernel_rfl) (by kernel_rfl) (by kernel_rfl) (fun _ _ _ h => h) (Or.inl ⟨by rfl, ?bhy45⟩) hHeld ?brest45
    case bhy45 => (intro wq hSw; have cq : wq.cell? ⟨B6, 0, none⟩ = some (.int .i64 p.id) := hSw.1.cell 0; clear hSw; go_simp; try with_reducible rfl)
    try simp only [Act.put, List.setIfInBounds_toArray, List.set_cons_zero, List.set_cons_succ]
    refine wpAnyH_ready (rs := [46]) (by kernel_rfl) (by simp) ?_
    refine AllReadyH.cons rfl (fun K hK => ?_) AllReadyH.nil
    go_simp
    go_wp2_with (go_at_call 19; refine (HNk.out _).mono ?_; rintro e w16 ⟨rfl, hb16⟩)
    have HF := Lib.hid (HEd.out.trans (hb16.mono HEd.out.size))
    refine hK.out _ _ ⟨H6d.out.calls hb16, H9d.out.calls hb16, H11d.out.calls hb16, HNd.out.calls hb16⟩ (fun hHeld => ?_)
    clear hK K hb16
    refine wpAnyH_take (i := 47) (oi := { dst := some 105, op := Op.binOp BinOp.eql 27 (Operand.tmp 102) (Operand.tmp 104) 27, type := 4, pos := "law.go:102", after := #[{ on := 44, ground := Ground.data }, { on := 46, ground := Ground.data }, { on := 43, ground := Ground.guard }], guard := some (43, true) }) (v := ?bv47) rfl (by kernel_rfl) (by kernel_rfl) (by kernel_rfl) (fun _ _ _ h => h) (Or.inl ⟨by rfl, ?bhy47⟩) hHeld ?brest47
    case bhy47 => (intro wq hSw; have cq : wq.cell? ⟨B6, 0, none⟩ = some (.int .i64 p.id) := hSw.1.cell 0; clear hSw; go_simp; try with_reducible rfl)
    try simp only [Act.put, List.setIfInBounds_toArray, List.set_cons_zero, List.set_cons_succ]
    refine wpAnyH_take (i := 48) (oi := { dst := some 106, op := Op.pick (Operand.tmp 101) (Operand.tmp 105) (Operand.const (Value.bool false)), type := 4, pos := "law.go:102", after := #[{ on := 43, ground := Ground.data }, { on := 47, ground := Ground.data }], guard := none }) (v := ?bv48) rfl (by kernel_rfl) (by kernel_rfl) (by kernel_rfl) (fun _ _ _ h => h) (Or.inl ⟨by rfl, ?bhy48⟩) hHeld ?brest48
    case bhy48 => (intro wq hSw; have cq : wq.cell? ⟨B6, 0, none⟩ = some (.int .i64 p.id) := hSw.1.cell 0; clear hSw; go_simp; try with_reducible rfl)
    try simp only [Act.put, List.setIfInBounds_toArray, List.set_cons_zero, List.set_cons_succ]
    refine wpAnyH_take (i := 49) (oi := { dst := some 4, op := Op.assign (Operand.tmp 106), type := 4, pos := "law.go:102", after := #[{ on := 48, ground := Ground.data }, { on := 46, ground := Ground.chain }, { on := 0, ground := Ground.phase }, { on := 1, ground := Ground.phase }, { on := 2, ground := Ground.phase }, { on := 3, ground := Ground.phase }, { on := 4, ground := Ground.phase }, { on := 5, ground := Ground.phase }, { on := 6, ground := Ground.phase }, { on := 7, ground := Ground.phase }, { on := 8, ground := Ground.phase }, { on := 9, ground := Ground.phase }, { on := 10, ground := Ground.phase }, { on := 11, ground := Ground.phase }, { on := 12, ground := Ground.phase }, { on := 13, ground := Ground.phase }, { on := 14, ground := Ground.phase }, { on := 15, ground := Ground.phase }, { on := 16, ground := Ground.phase }, { on := 17, ground := Ground.phase }, { on := 18, ground := Ground.phase }, { on := 19, ground := Ground.phase }, { on := 20, ground := Ground.phase }, { on := 21, ground := Ground.phase }, { on := 22, ground := Ground.phase }, { on := 23, ground := Ground.phase }, { on := 24, ground := Ground.phase }, { on := 25, ground := Ground.phase }, { on := 26, ground := Ground.phase }, { on := 27, ground := Ground.phase }, { on := 28, ground := Ground.phase }, { on := 29, ground := Ground.phase }, { on := 30, ground := Ground.phase }, { on := 31, ground := Ground.phase }, { on := 32, ground := Ground.phase }, { on := 33, ground := Ground.phase }, { on := 34, ground := Ground.phase }, { on := 35, ground := Ground.phase }, { on := 36, ground := Ground.phase }, { on := 37, ground := Ground.phase }, { on := 38, ground := Ground.phase }, { on := 39, ground := Ground.phase }, { on := 40, ground := Ground.phase }, { on := 41, ground := Ground.phase }, { on := 42, ground := Ground.phase }, { on := 43, ground := Ground.phase }, { on := 44, ground := Ground.phase }, { on := 45, ground := Ground.phase }, { on := 46, ground := Ground.phase }, { on := 47, ground := Ground.phase }, { on := 48, ground := Ground.phase }], guard := none }) (v := ?bv49) rfl (by kernel_rfl) (by kernel_rfl) (by kernel_rfl) (fun _ _ _ h => h) (Or.inl ⟨by rfl, ?bhy49⟩) hHeld ?brest49
    case bhy49 => (intro wq hSw; have cq : wq.cell? ⟨B6, 0, none⟩ = some (.int .i64 p.id) := hSw.1.cell 0; clear hSw; go_simp; try with_reducible rfl)
    try simp only [Act.put, List.setIfInBounds_toArray, List.set_cons_zero, List.set_cons_succ]
    refine wpAnyH_done (by kernel_rfl) ?_ _
    go_wp2_with fail
    go_ret
    exact ⟨rfl, HF.out⟩
end Go.Proofs.YtoceglomogcgcaaDoor
