/- the law PageEncodes -/
import Derived.Test.YtoceglomogcgcaaDoorLwForms
import Derived.Deep.RegionHeld3
import Derived.Test.YtoceglomogcgcaaDoorLwEncA
namespace Go.Proofs.YtoceglomogcgcaaDoor
open Go.RowKit

theorem PgIn.rangeE {W : World} {B : Nat} {p : Pg} (h : PgIn W B p) : W.rangeAt B 0 (pgCells p) := fun j v hv => by
  rw [Nat.zero_add, cell_of_row W B j _ _ _ h, List.getElem?_toArray]
  exact hv
theorem info_lenE {p : Pg} (h : p.cells.length = 16) : (Tryd.prog.info? 27).map (·.size) = some (pgCells p).length := by rw [pgCells_length, h]; exact info_page
theorem wpList_load_mid_pg (x : Operand) {ops : Array Oper} {rest : List Oper} {a : Act} {w : World} {Q : Exit → Act → World → Prop} {d : Option Tmp} {t : TypeId} {pos : String} {aft : Array Edge}
    (b o : Nat) (p : Pg) (hx : a.eval x = .pointer (some ⟨b, o, none⟩)) (hg : w.rangeAt b o (pgCells p)) (hp : p.cells.length = 16)
    (h : wpList Tryd.prog ops Q rest (a.put d (.agg (pgCells p).toArray)) w) :
    wpList Tryd.prog ops Q ({ dst := d, op := .load 27 x, type := t, pos := pos, after := aft, guard := none } :: rest) a w := by
  obtain ⟨fs, hu⟩ := under_page
  exact wpList_load_mid rfl 27 x rfl b o hx (pgCells p) _ hg hu rfl (info_lenE hp) h
theorem odd_page (C : Nat) (p : Pg) (id : Int) (w : World) (h : CodesOk w C) (hp : Drawn p id) (h0 : 0 ≤ id ∧ id < 64) :
    Calls Tryd.prog 14 #[.pointer (some ⟨C, 0, none⟩), .agg (pgCells p).toArray] w fun e w' => ∃ r : Pg, e = .returned (.agg (pgCells r).toArray) ∧ Good r ∧ Besides C w w' ∧ CodesOk w' C :=
  (draw_odd C p id w h hp h0.1 h0.2).mono (by rintro e w' ⟨r, rfl, a1, _, a2, a3⟩; exact ⟨r, rfl, a1, a2, a3⟩)
set_option maxHeartbeats 16000000 in
set_option maxRecDepth 20000 in
theorem encodes_any (x : Option Addr) (len cap : Nat) (zs : List Int) (p : Pg) (id : Int) (w : World) (hr : IsRow .u8 w x len cap zs) (hp : Good p) (hi : -9223372036854775808 ≤ id ∧ id ≤ 9223372036854775807) (ht : TabAt w) :
    Calls Tryd.prog 3 #[.slice x len cap, .agg (pgCells p).toArray, .int .i64 id] w fun e w' => e = .returned (.bool true) ∧ Below w.heap.size w w' := by
  have HT := Lib.hid ht
  have HR := Lib.hid hr
  have HG := Lib.hid hp
  have HPl := Lib.hid hp.len
  have HIw := Lib.hid hi
  obtain ⟨fs, hu⟩ := under_page
  have HU := Lib.hid hu
  have HB0 : Hid (Below w.heap.size w (w.alloc (.cells (pgCells p).toArray 27))) := (Below.refl _ _).alloc (Nat.le_refl _) _
  have HP0 : Hid (PgIn (w.alloc (.cells (pgCells p).toArray 27)) w.heap.size p) := heap_alloc_last w _
  clear ht hr hp hu hi
  go_enter Tryd.func3, Tryd.ntmps3
  go_wp2_with fail
  refine (awake_page _ (HT.out.below HB0.out)).mono ?_
  rintro e w1 ⟨rfl, hb⟩
  have HB1 := Lib.hid (HB0.out.trans (hb.mono (by simp)))
  have HP1 := Lib.hid (HP0.out.calls hb)
  have HR1 := Lib.hid (row_below HR.out HB1.out)
  have HLt1 : Hid (w.heap.size < w1.heap.size) := HP1.out.lt
  go_wp2_with fail
  refine (new_to 100 (by omega) _ _ _ zs _ HR1.out).mono ?_
  rintro e w2 ⟨rfl, hb2, hc2⟩
  have HE2 := Lib.hid (start_env HB1.out hb2 hc2 HT.out)
  have HP2 := Lib.hid (HP1.out.calls hb2)
  clear hb hb2 hc2 HR HR1 HB0 HB1 HP0 HP1
  generalize w1.heap.size = C at *
  have HN4 : Hid (w.heap.size ≠ C) := by have := HLt1.out; show _ ≠ _; omega
  go_wp2_with fail
  refine (next_any C 64 _ HE2.out.codes (by omega)).mono ?_
  rintro e w3 ⟨qid, rfl, id0, id1, hb3, hc3⟩
  have HE3 := Lib.hid (HE2.out.besides HT.out hb3 hc3)
  have HP3 := Lib.hid (HP2.out.besides hb3 HN4.out)
  have HId : Hid (0 ≤ qid ∧ qid < 64) := ⟨id0, by omega⟩
  clear hb3 hc3 id0 id1
  go_wp2_with fail
  refine (draw_page C qid _ HE3.out.codes).mono ?_
  rintro e w4 ⟨q, rfl, hq, hb4, hc4⟩
  have HE4 := Lib.hid (HE3.out.besides HT.out hb4 hc4)
  have HP4 := Lib.hid (HP3.out.besides hb4 HN4.out)
  have HQ := Lib.hid hq
  have HQl := Lib.hid hq.len
  clear hb4 hc4 hq HE2 HE3 HP2 HP3
  have HGa : Hid (PgIn (w4.alloc (.cells (pgCells (newPg 0)).toArray 27)) w4.heap.size (newPg 0)) := heap_alloc_last w4 _
  have HE5 := Lib.hid (HE4.out.calls (putPg_below w4 q))
  have HP5 := Lib.hid (HP4.out.calls (putPg_below w4 q))
  have HQ5 := Lib.hid (putPg_at w4 q)
  have HN8 : Hid (w4.heap.size ≠ C) := by have := HE4.out.codes.lt; show _ ≠ _; omega
  have HDf : Hid (putPg w4 q = (w4.alloc (.cells (pgCells (newPg 0)).toArray 27)).setRow w4.heap.size (pgCells q).toArray) := rfl
  go_wp2_with (first | ((with_reducible refine wpList_alloc_pg ?_); simp only [Act.put, List.setIfInBounds_toArray, List.set_cons_zero, List.set_cons_succ]) | ((with_reducible refine wpList_store_pg (.tmp 8) w4.heap.size q (newPg 0) ?_ ?_ ?_ ?_ ?_ ?_); (exact rfl); (exact rfl); (exact HGa.out); (exact HQl.out); (exact rfl); skip))
  rw [← HDf.out]
  clear HGa HE4 HP4
  generalize putPg w4 q = w5 at *
  generalize w4.heap.size = B8 at *
  generalize hB4 : w.heap.size = B4 at HP5 HN4 ⊢
  have HP5d : Hid (PgIn w5.drew B4 p) := HP5.out
  have HQ5d : Hid (PgIn w5.drew B8 q) := HQ5.out
  have HC5d : Hid (CodesOk w5.drew C) := HE5.out.codes.drew
  have HB5d : Hid (Besides C w5 w5.drew) := (Besides.refl _ _).drew
  refine wp_region_held_drew (S := fun w' => PgIn w' B4 p ∧ PgIn w' B8 q) (by kernel_rfl) ⟨HP5d.out, HQ5d.out⟩ (fun hHeld => ?_)
  refine wpAnyH_take (i := 0) (oi := { dst := some 23, op := Op.load 27 (Operand.tmp 4), type := 27, pos := "law.go:24", after := #[], guard := none }) rfl (by kernel_rfl) (by kernel_rfl) (by kernel_rfl) (fun _ _ _ h => h) (yieldsIf_load_mid (by rfl) 27 (.tmp 4) rfl B4 0 rfl (pgCells p) _ (fun _ h => (h.1).rangeE) HU.out rfl (info_lenE HPl.out)) hHeld ?_
  try simp only [Act.put, List.setIfInBounds_toArray, List.set_cons_zero, List.set_cons_succ]
  refine wpAnyH_take (i := 1) (oi := { dst := some 24, op := Op.load 27 (Operand.tmp 8), type := 27, pos := "law.go:24", after := #[], guard := none }) rfl (by kernel_rfl) (by kernel_rfl) (by kernel_rfl) (fun _ _ _ h => h) (yieldsIf_load_mid (by rfl) 27 (.tmp 8) rfl B8 0 rfl (pgCells q) _ (fun _ h => (h.2).rangeE) HU.out rfl (info_lenE HQl.out)) hHeld ?_
  try simp only [Act.put, List.setIfInBounds_toArray, List.set_cons_zero, List.set_cons_succ]
  refine wpAnyH_take (i := 2) (oi := { dst := some 25, op := Op.move (Operand.tmp 7), type := 29, pos := "law.go:24", after := #[], guard := none }) (v := ?av2) rfl (by kernel_rfl) (by kernel_rfl) (by kernel_rfl) (fun _ _ _ h => h) (Or.inl ⟨by rfl, ?ahy2⟩) hHeld ?arest2
  case ahy2 => (intro wq hSw; clear hSw; go_simp; try with_reducible rfl)
  try simp only [Act.put, List.setIfInBounds_toArray, List.set_cons_zero, List.set_cons_succ]
  refine wpAnyH_take (i := 3) (oi := { dst := some 26, op := Op.load 27 (Operand.tmp 8), type := 27, pos := "law.go:24", after := #[], guard := none }) rfl (by kernel_rfl) (by kernel_rfl) (by kernel_rfl) (fun _ _ _ h => h) (yieldsIf_load_mid (by rfl) 27 (.tmp 8) rfl B8 0 rfl (pgCells q) _ (fun _ h => (h.2).rangeE) HU.out rfl (info_lenE HQl.out)) hHeld ?_
  try simp only [Act.put, List.setIfInBounds_toArray, List.set_cons_zero, List.set_cons_succ]
  refine wpAnyH_take (i := 5) (oi := { dst := some 28, op := Op.move (Operand.tmp 7), type := 29, pos := "law.go:24", after := #[], guard := none }) (v := ?av5) rfl (by kernel_rfl) (by kernel_rfl) (by kernel_rfl) (fun _ _ _ h => h) (Or.inl ⟨by rfl, ?ahy5⟩) hHeld ?arest5
  case ahy5 => (intro wq hSw; clear hSw; go_simp; try with_reducible rfl)
  try simp only [Act.put, List.setIfInBounds_toArray, List.set_cons_zero, List.set_cons_succ]
  refine wpAnyH_take (i := 6) (oi := { dst := some 29, op := Op.load 27 (Operand.tmp 8), type := 27, pos := "law.go:24", after := #[], guard := none }) rfl (by kernel_rfl) (by kernel_rfl) (by kernel_rfl) (fun _ _ _ h => h) (yieldsIf_load_mid (by rfl) 27 (.tmp 8) rfl B8 0 rfl (pgCells q) _ (fun _ h => (h.2).rangeE) HU.out rfl (info_lenE HQl.out)) hHeld ?_
  try simp only [Act.put, List.setIfInBounds_toArray, List.set_cons_zero, List.set_cons_succ]
  refine wpAnyH_take (i := 10) (oi := { dst := some 33, op := Op.move (Operand.const (Value.int IntKind.i64 0)), type := 3, pos := "law.go:24", after := #[], guard := none }) (v := ?av10) rfl (by kernel_rfl) (by kernel_rfl) (by kernel_rfl) (fun _ _ _ h => h) (Or.inl ⟨by rfl, ?ahy10⟩) hHeld ?arest10
  case ahy10 => (intro wq hSw; clear hSw; go_simp; try with_reducible rfl)
  try simp only [Act.put, List.setIfInBounds_toArray, List.set_cons_zero, List.set_cons_succ]
  refine wpAnyH_ready (rs := [4]) (by kernel_rfl) (by simp) ?_
  refine AllReadyH.cons (o := { dst := some 27, op := Op.call { callee := Callee.value (Operand.func 14), args := #[Operand.tmp 25, Operand.tmp 26], argTypes := #[29, 27] }, type := 27, pos := "law.go:24", after := #[{ on := 2, ground := Ground.data }, { on := 3, ground := Ground.data }], guard := none }) rfl (fun K hK => ?_) AllReadyH.nil
  go_simp
  go_wp2_with (go_at_call 14; refine (odd_page C q qid _ HC5d.out HQ.out HId.out).mono ?_; rintro e w6 ⟨r1, rfl, hr1, hb6, hc6⟩)
  have HP6 := Lib.hid (HP5d.out.besides hb6 HN4.out)
  have HQ6 := Lib.hid (HQ5d.out.besides hb6 HN8.out)
  have HB6 := Lib.hid (HB5d.out.trans hb6)
  have HC6 := Lib.hid hc6
  have HR1 := Lib.hid hr1
  refine hK.out _ _ ⟨HP6.out, HQ6.out⟩ (fun hHeld => ?_)
  clear hK K hb6 hc6 hr1
  try simp only [Act.put, List.setIfInBounds_toArray, List.set_cons_zero, List.set_cons_succ]
  refine wpAnyH_ready (rs := [7]) (by kernel_rfl) (by simp) ?_
  refine AllReadyH.cons (o := { dst := some 30, op := Op.call { callee := Callee.value (Operand.func 14), args := #[Operand.tmp 28, Operand.tmp 29], argTypes := #[29, 27] }, type := 27, pos := "law.go:24", after := #[{ on := 5, ground := Ground.data }, { on := 6, ground := Ground.data }, { on := 4, ground := Ground.chain }], guard := none }) rfl (fun K hK => ?_) AllReadyH.nil
  go_simp
  go_wp2_with (go_at_call 14; refine (odd_page C q qid _ HC6.out HQ.out HId.out).mono ?_; rintro e w7 ⟨r2, rfl, hr2, hb7, hc7⟩)
  have HP7 := Lib.hid (HP6.out.besides hb7 HN4.out)
  have HQ7 := Lib.hid (HQ6.out.besides hb7 HN8.out)
  have HB7 := Lib.hid (HB6.out.trans hb7)
  have HE7 := Lib.hid (HE5.out.besides HT.out HB7.out hc7)
  have HR2 := Lib.hid hr2
  refine hK.out _ _ ⟨HP7.out, HQ7.out⟩ (fun hHeld => ?_)
  clear hK K hb7 hc7 hr2
  try simp only [Act.put, List.setIfInBounds_toArray, List.set_cons_zero, List.set_cons_succ]
  refine wpAnyH_ready (rs := [8]) (by kernel_rfl) (by simp) ?_
  refine AllReadyH.cons (o := { dst := some 31, op := Op.buildSlice 34 4 #[(0, Operand.tmp 23), (1, Operand.tmp 24), (2, Operand.tmp 27), (3, Operand.tmp 30)], type := 34, pos := "law.go:24", after := #[{ on := 0, ground := Ground.data }, { on := 1, ground := Ground.data }, { on := 4, ground := Ground.data }, { on := 7, ground := Ground.data }], guard := none }) rfl (fun K hK => ?_) AllReadyH.nil
  rw [if_pos (by rfl)]
  refine wp_build_pages (.tmp 23) (.tmp 24) (.tmp 27) (.tmp 30) rfl p q r1 r2 HPl.out HQl.out HR1.out.len HR2.out.len rfl rfl rfl rfl ?_
  try simp only [Act.put, List.setIfInBounds_toArray, List.set_cons_zero, List.set_cons_succ]
  have hbA : Below w7.heap.size w7 (w7.alloc (.cells (([p, q, r1, r2] : List Pg).flatMap pgCells).toArray 27)) := (Below.refl _ _).alloc (Nat.le_refl _) _
  refine hK.out _ _ ⟨HP7.out.calls hbA, HQ7.out.calls hbA⟩ (fun hHeld => ?_)
  have HE8 := Lib.hid (HE7.out.calls hbA)
  have HS8 : Hid (PagesS (w7.alloc (.cells (([p, q, r1, r2] : List Pg).flatMap pgCells).toArray 27)) w7.heap.size [p, q, r1, r2]) := heap_alloc_last w7 _
  clear hK K hbA
  generalize (w7.alloc (.cells (([p, q, r1, r2] : List Pg).flatMap pgCells).toArray 27)) = w8 at *
  generalize w7.heap.size = BS at *
  refine wpAnyH_take (i := 9) (oi := { dst := some 32, op := Op.call { callee := Callee.builtin Builtin.len, args := #[Operand.tmp 31], argTypes := #[34] }, type := 3, pos := "law.go:24", after := #[{ on := 8, ground := Ground.data }], guard := none }) (v := ?bv9) rfl (by kernel_rfl) (by kernel_rfl) (by kernel_rfl) (fun _ _ _ h => h) (Or.inl ⟨by rfl, ?bhy9⟩) hHeld ?brest9
  case bhy9 => (intro wq hSw; clear hSw; go_simp; try with_reducible rfl)
  try simp only [Act.put, List.setIfInBounds_toArray, List.set_cons_zero, List.set_cons_succ]
  refine wpAnyH_done (by kernel_rfl) ?_ _
  have HLg : Hid (∀ y ∈ [p, q, r1, r2], Good y) := by
    intro y hy
    simp only [List.mem_cons, List.not_mem_nil, or_false] at hy
    rcases hy with rfl | rfl | rfl | rfl
    · exact HG.out
    · exact HQ.out.good HId.out.1 HId.out.2
    · exact HR1.out
    · exact HR2.out
  have HL4 : Hid ([p, q, r1, r2].length = 4) := rfl
  clear HP5d HQ5d HC5d HB5d HP6 HQ6 HB6 HC6 HP7 HQ7 HB7 HE7 HE5 HP5 HQ5 HDf hHeld
  generalize [p, q, r1, r2] = L at *
  go_wp2_with fail
  go_loopw [33] (fun i wr => ∃ j : Nat, j ≤ 4 ∧ i = .int .i64 j ∧ Env w C wr ∧ PagesS wr BS L) (fun i _ => 4 - (intOf i).toNat)
  case atStart => exact ⟨0, by omega, rfl, HE8.out, HS8.out⟩
  case round =>
    obtain ⟨j, hj, rfl, hen, hsl⟩ := hrel
    have HEr := Lib.hid hen
    have HSr := Lib.hid hsl
    clear hen hsl
    by_cases hlt : j < 4
    · have hjl : j < L.length := by rw [HL4.out]; exact hlt
      have HRg := Lib.hid (HSr.out.range j hjl (fun y hy => (HLg.out y hy).len))
      have HYg := Lib.hid (HLg.out _ (List.getElem_mem hjl))
      generalize L[j] = y at *
      have HYl := Lib.hid HYg.out.len
      have HGa : Hid (PgIn (wr.alloc (.cells (pgCells (newPg 0)).toArray 27)) wr.heap.size (newPg 0)) := heap_alloc_last wr _
      have HE9 := Lib.hid (HEr.out.calls (putPg_below wr y))
      have HS9 := Lib.hid (HSr.out.calls (putPg_below wr y))
      have HY9 := Lib.hid (putPg_at wr y)
      have HDg : Hid (putPg wr y = (wr.alloc (.cells (pgCells (newPg 0)).toArray 27)).setRow wr.heap.size (pgCells y).toArray) := rfl
      have HY9' := HY9
      rw [HDg.out] at HY9'
      go_wp2_with (first | ((with_reducible refine wpList_load_mid_pg (.tmp 35) BS (j * 34) y ?_ ?_ ?_ ?_); (exact rfl); (exact HRg.out); (exact HYl.out); simp only [Act.put, List.setIfInBounds_toArray, List.set_cons_zero, List.set_cons_succ]) | ((with_reducible refine wpList_alloc_pg ?_); simp only [Act.put, List.setIfInBounds_toArray, List.set_cons_zero, List.set_cons_succ]) | ((with_reducible refine wpList_store_pg (.tmp 10) wr.heap.size y (newPg 0) ?_ ?_ ?_ ?_ ?_ ?_); (exact rfl); (exact rfl); (exact HGa.out); (exact HYl.out); (exact rfl); skip) | ((with_reducible refine wpList_load_pg (.tmp 10) wr.heap.size y ?_ ?_ ?_ ?_); (exact rfl); (exact HY9'.out); (exact HYl.out); simp only [Act.put, List.setIfInBounds_toArray, List.set_cons_zero, List.set_cons_succ]))
      rw [← HDg.out]
      clear HGa HY9'
      generalize putPg wr y = w9 at *
      generalize wr.heap.size = BY at *
      refine (enc_any HYg.out _ HE9.out.tab).mono ?_
      rintro e w10 ⟨rfl, hb10⟩
      have HE10 := Lib.hid (HE9.out.calls hb10)
      have HS10 := Lib.hid (HS9.out.calls hb10)
      have HY10 := Lib.hid (HY9.out.calls hb10)
      clear hb10 HE9 HS9 HY9
      go_wp2_with ((with_reducible refine wpList_load_pg (.tmp 10) BY y ?_ ?_ ?_ ?_); (exact rfl); (exact HY10.out); (exact HYl.out); simp only [Act.put, List.setIfInBounds_toArray, List.set_cons_zero, List.set_cons_succ])
      refine (rencode_page HYg.out _).mono ?_
      rintro e w11 ⟨rfl, hb11⟩
      have HE11 := Lib.hid (HE10.out.calls hb11)
      have HS11 := Lib.hid (HS10.out.calls hb11)
      have HY11 := Lib.hid (HY10.out.calls hb11)
      clear hb11 HE10 HS10 HY10
      generalize encR y = en at *
      obtain ⟨t, n⟩ := en
      have HVal : Hid (∀ W, Calls Tryd.prog 17 #[.agg (pgCells y).toArray] W fun e w' => e = .returned (.bool (checkR y == 0)) ∧ Below W.heap.size W w') := fun W => valid_any y W HYg.out.len HYg.out.data
      have HRval : Hid (∀ W, Calls Tryd.prog 18 #[.agg (pgCells y).toArray] W fun e w' => e = .returned (.bool (checkR y == 0)) ∧ Below W.heap.size W w') := fun W => by
        have := rvalid y W HYg.out.len HYg.out.data
        rw [valid_iff] at this
        exact this
      generalize (checkR y == 0) = vb at *
      go_wp2_with fail
      have HYd : Hid (PgIn w11.drew BY y) := HY11.out
      have HEd : Hid (Env w C w11.drew) := HE11.out.calls ((Below.refl _ _).drew)
      have HSd : Hid (PagesS w11.drew BS L) := HS11.out
      refine wp_region_held_drew (S := fun w' => PgIn w' BY y) (by kernel_rfl) HYd.out (fun hHeld => ?_)
      refine wpAnyH_take (i := 0) (oi := { dst := some 47, op := Op.move (Operand.tmp 11), type := 9, pos := "law.go:27", after := #[], guard := none }) (v := ?cv0) rfl (by kernel_rfl) (by kernel_rfl) (by kernel_rfl) (fun _ _ _ h => h) (Or.inl ⟨by rfl, ?chy0⟩) hHeld ?crest0
      case chy0 => (intro wq hSw; clear hSw; go_simp; try with_reducible rfl)
      try simp only [Act.put, List.setIfInBounds_toArray, List.set_cons_zero, List.set_cons_succ]
      refine wpAnyH_take (i := 1) (oi := { dst := some 48, op := Op.move (Operand.tmp 13), type := 9, pos := "law.go:27", after := #[], guard := none }) (v := ?cv1) rfl (by kernel_rfl) (by kernel_rfl) (by kernel_rfl) (fun _ _ _ h => h) (Or.inl ⟨by rfl, ?chy1⟩) hHeld ?crest1
      case chy1 => (intro wq hSw; clear hSw; go_simp; try with_reducible rfl)
      try simp only [Act.put, List.setIfInBounds_toArray, List.set_cons_zero, List.set_cons_succ]
      refine wpAnyH_take (i := 2) (oi := { dst := some 49, op := Op.binOp BinOp.neq 9 (Operand.tmp 47) (Operand.tmp 48) 9, type := 4, pos := "law.go:27", after := #[{ on := 0, ground := Ground.data }, { on := 1, ground := Ground.data }], guard := none }) (v := ?cv2) rfl (by kernel_rfl) (by kernel_rfl) (by kernel_rfl) (fun _ _ _ h => h) (Or.inl ⟨by rfl, ?chy2⟩) hHeld ?crest2
      case chy2 => (intro wq hSw; clear hSw; go_simp; try with_reducible rfl)
      try simp only [Act.put, List.setIfInBounds_toArray, List.set_cons_zero, List.set_cons_succ]
      refine wpAnyH_take (i := 3) (oi := { dst := some 50, op := Op.move (Operand.tmp 49), type := 4, pos := "law.go:27", after := #[{ on := 2, ground := Ground.data }], guard := none }) (v := ?cv3) rfl (by kernel_rfl) (by kernel_rfl) (by kernel_rfl) (fun _ _ _ h => h) (Or.inl ⟨by rfl, ?chy3⟩) hHeld ?crest3
      case chy3 => (intro wq hSw; clear hSw; go_simp; try with_reducible rfl)
      try simp only [Act.put, List.setIfInBounds_toArray, List.set_cons_zero, List.set_cons_succ]
      refine wpAnyH_take (i := 4) (oi := { dst := some 51, op := Op.move (Operand.tmp 12), type := 35, pos := "law.go:27", after := #[{ on := 3, ground := Ground.guard }], guard := some (3, false) }) (v := ?cv4) rfl (by kernel_rfl) (by kernel_rfl) (by kernel_rfl) (fun _ _ _ h => h) (Or.inl ⟨by rfl, ?chy4⟩) hHeld ?crest4
      case chy4 => (intro wq hSw; clear hSw; go_simp; try with_reducible rfl)
      try simp only [Act.put, List.setIfInBounds_toArray, List.set_cons_zero, List.set_cons_succ]
      refine wpAnyH_take (i := 5) (oi := { dst := some 52, op := Op.move (Operand.tmp 14), type := 35, pos := "law.go:27", after := #[{ on := 3, ground := Ground.guard }], guard := some (3, false) }) (v := ?cv5) rfl (by kernel_rfl) (by kernel_rfl) (by kernel_rfl) (fun _ _ _ h => h) (Or.inl ⟨by rfl, ?chy5⟩) hHeld ?crest5
      case chy5 => (intro wq hSw; clear hSw; go_simp; try with_reducible rfl)
      try simp only [Act.put, List.setIfInBounds_toArray, List.set_cons_zero, List.set_cons_succ]
      refine wpAnyH_take (i := 6) (oi := { dst := some 53, op := Op.binOp BinOp.neq 35 (Operand.tmp 51) (Operand.tmp 52) 35, type := 4, pos := "law.go:27", after := #[{ on := 4, ground := Ground.data }, { on := 5, ground := Ground.data }, { on := 3, ground := Ground.guard }], guard := some (3, false) }) (v := ?cv6) rfl (by kernel_rfl) (by kernel_rfl) (by kernel_rfl) (fun _ _ _ h => h) (Or.inl ⟨by rfl, ?chy6⟩) hHeld ?crest6
      case chy6 => (intro wq hSw; clear hSw; go_simp; try with_reducible rfl)
      try simp only [Act.put, List.setIfInBounds_toArray, List.set_cons_zero, List.set_cons_succ]
      refine wpAnyH_take (i := 7) (oi := { dst := some 54, op := Op.pick (Operand.tmp 50) (Operand.const (Value.bool true)) (Operand.tmp 53), type := 4, pos := "law.go:27", after := #[{ on := 3, ground := Ground.data }, { on := 6, ground := Ground.data }], guard := none }) (v := ?cv7) rfl (by kernel_rfl) (by kernel_rfl) (by kernel_rfl) (fun _ _ _ h => h) (Or.inl ⟨by rfl, ?chy7⟩) hHeld ?crest7
      case chy7 => (intro wq hSw; clear hSw; go_simp; try with_reducible rfl)
      try simp only [Act.put, List.setIfInBounds_toArray, List.set_cons_zero, List.set_cons_succ]
      refine wpAnyH_take (i := 8) (oi := { dst := some 55, op := Op.move (Operand.tmp 54), type := 4, pos := "law.go:27", after := #[{ on := 7, ground := Ground.data }, { on := 3, ground := Ground.chain }], guard := none }) (v := ?cv8) rfl (by kernel_rfl) (by kernel_rfl) (by kernel_rfl) (fun _ _ _ h => h) (Or.inl ⟨by rfl, ?chy8⟩) hHeld ?crest8
      case chy8 => (intro wq hSw; clear hSw; go_simp; try with_reducible rfl)
      try simp only [Act.put, List.setIfInBounds_toArray, List.set_cons_zero, List.set_cons_succ]
      refine wpAnyH_take (i := 9) (oi := { dst := some 56, op := Op.load 27 (Operand.tmp 10), type := 27, pos := "law.go:27", after := #[{ on := 8, ground := Ground.guard }], guard := some (8, false) }) rfl (by kernel_rfl) (by kernel_rfl) (by kernel_rfl) (fun _ _ _ h => h) (yieldsIf_load_mid (by rfl) 27 (.tmp 10) rfl BY 0 rfl (pgCells y) _ (fun _ h => (h).rangeE) HU.out rfl (info_lenE HYl.out)) hHeld ?_
      try simp only [Act.put, List.setIfInBounds_toArray, List.set_cons_zero, List.set_cons_succ]
      refine wpAnyH_take (i := 11) (oi := { dst := some 58, op := Op.load 27 (Operand.tmp 10), type := 27, pos := "law.go:27", after := #[{ on := 8, ground := Ground.guard }], guard := some (8, false) }) rfl (by kernel_rfl) (by kernel_rfl) (by kernel_rfl) (fun _ _ _ h => h) (yieldsIf_load_mid (by rfl) 27 (.tmp 10) rfl BY 0 rfl (pgCells y) _ (fun _ h => (h).rangeE) HU.out rfl (info_lenE HYl.out)) hHeld ?_
      try simp only [Act.put, List.setIfInBounds_toArray, List.set_cons_zero, List.set_cons_succ]
      refine wpAnyH_ready (rs := [10]) (by kernel_rfl) (by simp) ?_
      refine AllReadyH.cons (o := { dst := some 57, op := Op.call { callee := Callee.value (Operand.func 17), args := #[Operand.tmp 56], argTypes := #[27] }, type := 4, pos := "law.go:27", after := #[{ on := 9, ground := Ground.data }, { on := 8, ground := Ground.chain }, { on := 8, ground := Ground.guard }], guard := some (8, false) }) rfl (fun K hK => ?_) AllReadyH.nil
      go_simp
      go_wp2_with (go_at_call 17; refine (HVal.out _).mono ?_; rintro e w12 ⟨rfl, hb12⟩)
      have HY12 := Lib.hid (HYd.out.calls hb12)
      have HE12 := Lib.hid (HEd.out.calls hb12)
      have HS12 := Lib.hid (HSd.out.calls hb12)
      refine hK.out _ _ HY12.out (fun hHeld => ?_)
      clear hK K hb12
      try simp only [Act.put, List.setIfInBounds_toArray, List.set_cons_zero, List.set_cons_succ]
      refine wpAnyH_ready (rs := [12]) (by kernel_rfl) (by simp) ?_
      refine AllReadyH.cons (o := { dst := some 59, op := Op.call { callee := Callee.value (Operand.func 18), args := #[Operand.tmp 58], argTypes := #[27] }, type := 4, pos := "law.go:27", after := #[{ on := 11, ground := Ground.data }, { on := 10, ground := Ground.chain }, { on := 8, ground := Ground.guard }], guard := some (8, false) }) rfl (fun K hK => ?_) AllReadyH.nil
      go_simp
      go_wp2_with (go_at_call 18; refine (HRval.out _).mono ?_; rintro e w13 ⟨rfl, hb13⟩)
      have HY13 := Lib.hid (HY12.out.calls hb13)
      have HE13 := Lib.hid (HE12.out.calls hb13)
      have HS13 := Lib.hid (HS12.out.calls hb13)
      refine hK.out _ _ HY13.out (fun hHeld => ?_)
      clear hK K hb13
      try simp only [Act.put, List.setIfInBounds_toArray, List.set_cons_zero, List.set_cons_succ]
      refine wpAnyH_take (i := 13) (oi := { dst := some 60, op := Op.binOp BinOp.neq 4 (Operand.tmp 57) (Operand.tmp 59) 4, type := 4, pos := "law.go:27", after := #[{ on := 10, ground := Ground.data }, { on := 12, ground := Ground.data }, { on := 8, ground := Ground.guard }], guard := some (8, false) }) (v := ?dv13) rfl (by kernel_rfl) (by kernel_rfl) (by kernel_rfl) (fun _ _ _ h => h) (Or.inl ⟨by rfl, ?dhy13⟩) hHeld ?drest13
      case dhy13 => (intro wq hSw; clear hSw; go_simp; try with_reducible rfl)
      try simp only [Act.put, List.setIfInBounds_toArray, List.set_cons_zero, List.set_cons_succ]
      refine wpAnyH_take (i := 14) (oi := { dst := some 61, op := Op.pick (Operand.tmp 55) (Operand.const (Value.bool true)) (Operand.tmp 60), type := 4, pos := "law.go:27", after := #[{ on := 8, ground := Ground.data }, { on := 13, ground := Ground.data }], guard := none }) (v := ?dv14) rfl (by kernel_rfl) (by kernel_rfl) (by kernel_rfl) (fun _ _ _ h => h) (Or.inl ⟨by rfl, ?dhy14⟩) hHeld ?drest14
      case dhy14 => (intro wq hSw; clear hSw; go_simp; try with_reducible rfl)
      try simp only [Act.put, List.setIfInBounds_toArray, List.set_cons_zero, List.set_cons_succ]
      refine wpAnyH_done (by kernel_rfl) ?_ _
      go_wp2_with fail
      go_roundw
      case rel => exact ⟨j + 1, by omega, by go_num, HE13.out, HS13.out⟩
      case measure => simp [intOf]; omega
    · obtain rfl : j = 4 := by omega
      have HGn : Hid (Good (newPg id)) := good_of rfl (fun c hc => by
        have : c = emptyCl := List.eq_of_mem_replicate hc
        subst this
        decide) HIw.out ⟨by show _ ≤ (0 : Int); omega, by show (0 : Int) ≤ _; omega⟩
      have hnn : ∀ W, Sem.run Tryd.prog (binOp .eql 27 (.agg (pgCells (newPg id)).toArray) (.agg (pgCells (newPg id)).toArray)) W = .ok (.bool true) W := fun W => by
        have := run_page_eql (newPg id) (newPg id) HGn.out HGn.out W
        rw [samePg_self] at this
        exact this
      have HN1 : Hid (∀ W, Calls Tryd.prog 19 #[.int .i64 id] W fun e w' => e = .returned (.agg (pgCells (newPg id)).toArray) ∧ Below W.heap.size W w') := fun W => new_page id W
      have HN2 : Hid (∀ W, Calls Tryd.prog 20 #[.int .i64 id] W fun e w' => e = .returned (.agg (pgCells (newPg id)).toArray) ∧ Below W.heap.size W w') := fun W => rnew id W
      have HB1 : Hid (∀ W, Calls Tryd.prog 21 #[] W fun e w' => e = .returned (.string (zeroS 256)) ∧ Below W.heap.size W w') := fun W => blank_any W
      have HB2 : Hid (∀ W, Calls Tryd.prog 22 #[] W fun e w' => e = .returned (.string (zeroS 256)) ∧ Below W.heap.size W w') := fun W => rblank W
      generalize (pgCells (newPg id)).toArray = NK at *
      generalize zeroS 256 = Z at *
      go_wp2_with fail
      refine (HN1.out _).mono ?_
      rintro e w14 ⟨rfl, hb14⟩
      have HE14 := Lib.hid (HEr.out.calls hb14)
      clear hb14
      go_wp2_with fail
      refine (HN2.out _).mono ?_
      rintro e w15 ⟨rfl, hb15⟩
      have HE15 := Lib.hid (HE14.out.calls hb15)
      clear hb15
      go_wp2_with fail
      refine (HB1.out _).mono ?_
      rintro e w16 ⟨rfl, hb16⟩
      have HE16 := Lib.hid (HE15.out.calls hb16)
      clear hb16
      go_wp2_with fail
      refine (HB2.out _).mono ?_
      rintro e w17 ⟨rfl, hb17⟩
      have HE17 := Lib.hid (HE16.out.calls hb17)
      clear hb17
      go_wp2_with fail
      go_ret
      exact ⟨rfl, HE17.out.old⟩
end Go.Proofs.YtoceglomogcgcaaDoor
