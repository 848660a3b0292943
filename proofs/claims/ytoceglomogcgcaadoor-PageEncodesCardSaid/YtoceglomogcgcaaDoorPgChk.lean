/- the walks of the program's checks of pages -/
import Derived.Test.YtoceglomogcgcaaDoorRfPage
namespace Go.Proofs.YtoceglomogcgcaaDoor
open Go.RowKit

theorem validId_any (n : Int) (w : World) :
    Calls Tryd.prog 49 #[.int .i64 n] w fun e w' => e = .returned (.bool (decide (0 ≤ n) && decide (n < 64))) ∧ w = w' := by
  by_cases h0 : 0 ≤ n
  · by_cases h1 : n < 64
    · go_enter Tryd.func49, Tryd.ntmps49
      go_wp2
      go_ret
      exact ⟨by simp [h0, h1], rfl⟩
    · go_enter Tryd.func49, Tryd.ntmps49
      go_wp2
      go_ret
      exact ⟨by simp [h1], rfl⟩
  · go_enter Tryd.func49, Tryd.ntmps49
    go_wp2
    go_ret
    exact ⟨by simp; omega, rfl⟩
theorem validLsn_any (n : Int) (w : World) :
    Calls Tryd.prog 51 #[.int .i64 n] w fun e w' => e = .returned (.bool (decide (0 ≤ n) && decide (n ≤ 1099511627776))) ∧ w = w' := by
  by_cases h0 : 0 ≤ n
  · by_cases h1 : n ≤ 1099511627776
    · go_enter Tryd.func51, Tryd.ntmps51
      go_wp2
      go_ret
      exact ⟨by simp [h0, h1], rfl⟩
    · go_enter Tryd.func51, Tryd.ntmps51
      go_wp2
      go_ret
      exact ⟨by simp [h1], rfl⟩
  · go_enter Tryd.func51, Tryd.ntmps51
    go_wp2
    go_ret
    exact ⟨by simp; omega, rfl⟩
set_option maxHeartbeats 400000 in
theorem validCell_any (st : Bool) (d : ByteArray) (w : World) (hs : d.size ≤ maxLen) :
    Calls Tryd.prog 52 #[.agg #[.bool st, .string d]] w fun e w' => e = .returned (.bool (cellOkB ⟨st, d⟩)) ∧ Below w.heap.size w w' := by
  unfold maxLen at hs
  unfold cellOkB
  simp only
  have fin : Below w.heap.size w (w.alloc (.cells #[.bool st, .string d] 24)) := (Below.refl _ _).alloc (Nat.le_refl _) _
  have hd : d.toList.isEmpty = decide (d.size = 0) := by
    rw [ByteArray.toList_eq, Bool.eq_iff_iff, List.isEmpty_iff, decide_eq_true_iff, ← size_list]
    exact List.length_eq_zero_iff.symm
  cases st
  · cases h0 : decide (d.size = 0)
    · rw [h0] at hd
      go_enter Tryd.func52, Tryd.ntmps52
      go_wp2
      go_ret
      exact ⟨by simp, fin⟩
    · rw [h0] at hd
      have h12 : d.size ≤ 12 := by have := of_decide_eq_true h0; omega
      go_enter Tryd.func52, Tryd.ntmps52
      go_wp2
      go_ret
      exact ⟨by simp [h12], fin⟩
  · clear hd
    by_cases h1 : d.size ≤ 12
    · have d1 : decide ((d.size : Int) ≤ 12) = true := by simp; omega
      go_enter Tryd.func52, Tryd.ntmps52
      go_wp2
      go_ret
      exact ⟨by simp [h1], fin⟩
    · have d1 : decide ((d.size : Int) ≤ 12) = false := by simp; omega
      go_enter Tryd.func52, Tryd.ntmps52
      go_wp2
      go_ret
      exact ⟨by simp [h1], fin⟩

theorem info_cells : (Tryd.prog.info? 25).map (·.size) = some 32 := by kernel_rfl
theorem under_cells : Tryd.prog.underlying 25 = some (.array 16 24) := by kernel_rfl
theorem run_index_cells (R : Array Value) (k : Nat) (hk : k < 16) (st : Bool) (d : ByteArray) (he : R.extract (k * 2) (k * 2 + 2) = #[.bool st, .string d]) (w : World) :
    Sem.run Tryd.prog (Instr.index 25 (.agg R) (.int .i64 (k : Int))) w = .ok (.agg #[.bool st, .string d]) w := by
  obtain ⟨fs, hu⟩ : ∃ fs, Tryd.prog.underlying 24 = some (.struct fs) := ⟨_, Tryd.underlying24⟩
  obtain ⟨i, hi, hs⟩ : ∃ i, Tryd.prog.info? 24 = some i ∧ i.size = 2 := ⟨_, rfl, rfl⟩
  have hkk : (0 : Int) ≤ (k : Int) ∧ (k : Int) < 16 := by omega
  simp [Instr.index, asIntOf, run_underlying under_cells, part, isAgg, run_underlying hu, sizeOf, typeInfo, hi, hs, he]
  intro h; omega
theorem wpList_index_cells {ops : Array Oper} {rest : List Oper} {o : Oper} {a : Act} {w : World} {Q : Exit → Act → World → Prop} (hg : o.guard = none) (x i : Operand) (ho : o.op = .index 25 x i)
    (R : Array Value) (hx : a.eval x = .agg R) (k : Nat) (hi : a.eval i = .int .i64 (k : Int)) (hk : k < 16) (st : Bool) (d : ByteArray) (he : R.extract (k * 2) (k * 2 + 2) = #[.bool st, .string d])
    (h : wpList Tryd.prog ops Q rest (a.put o.dst (.agg #[.bool st, .string d])) w) : wpList Tryd.prog ops Q (o :: rest) a w :=
  wpList_plain hg fun K hK => by
    unfold Oper.wp execOp
    simp only [ho, hx, hi, Sem.run_bind, run_index_cells R k hk st d he w, Result.andThen_ok, Sem.run_pure]
    exact hK _ _ h
theorem rowCells_part (l : List Cl) (k : Nat) (h : k < l.length) : (rowCells l).toArray.extract (k * 2) (k * 2 + 2) = #[.bool l[k].set, .string l[k].data] := by
  induction l generalizing k with
  | nil => simp at h
  | cons c l ih =>
    cases k with
    | zero => simp [rowCells, clCells]
    | succ k =>
      have := ih k (by simpa using h)
      simp only [List.extract_toArray, List.getElem_cons_succ] at this ⊢
      rw [← this]
      show (List.extract (.bool c.set :: .string c.data :: rowCells l) _ _).toArray = _
      simp only [List.extract_eq_take_drop, show (k + 1) * 2 = k * 2 + 1 + 1 from by omega, List.drop_succ_cons]
      congr 2
      omega
theorem rangeAt_page {w : World} {B : Nat} {p : Pg} (h : w.heap[B]? = some (.cells (pgCells p).toArray 27 (0, 0))) : w.rangeAt B 2 (rowCells p.cells) := fun j v hv => by
  rw [cell_of_row w B (2 + j) _ _ _ h, List.getElem?_toArray]
  show (_ :: _ :: rowCells p.cells)[2 + j]? = some v
  rw [show 2 + j = j + 1 + 1 from by omega, List.getElem?_cons_succ, List.getElem?_cons_succ, hv]
set_option maxHeartbeats 2000000 in
theorem check_any (p : Pg) (w : World) (hl : p.cells.length = 16) (hs : ∀ c ∈ p.cells, c.data.size ≤ maxLen) :
    Calls Tryd.prog 33 #[pgV p] w fun e w' => e = .returned (.int .i64 (checkR p)) ∧ Below w.heap.size w w' := by
  have HL := Lib.hid hl
  have HS := Lib.hid hs
  have HA := Lib.hid (pgAt_alloc w p 27)
  have HF : Hid (Below w.heap.size w (w.alloc (.cells (pgCells p).toArray 27))) := (Below.refl _ _).alloc (Nat.le_refl _) _
  have HG : Hid ((w.alloc (.cells (pgCells p).toArray 27)).heap[w.heap.size]? = some (.cells (pgCells p).toArray 27 (0, 0))) := heap_alloc_last w _
  have HR := Lib.hid (rangeAt_page HG.out)
  have HRZ : Hid ((rowCells p.cells).length = 32) := by show _ = _; rw [rowCells_length, hl]
  have c0 := HA.out.1
  have c1 := HA.out.2.1
  clear hl hs HG
  unfold pgV
  generalize (pgCells p).toArray = C at *
  cases hn : numB p
  · have HX : Hid (checkR p = 1) := by show _ = _; unfold checkR; rw [if_pos hn]
    unfold numB at hn
    by_cases hid : (decide (0 ≤ p.id) && decide (p.id < 64)) = true
    · have hls : (decide (0 ≤ p.lsn) && decide (p.lsn ≤ 1099511627776)) = false := by
        rw [Bool.and_eq_true] at hid
        rw [hid.1, hid.2] at hn
        simpa using hn
      clear hn
      go_enter Tryd.func33, Tryd.ntmps33
      go_wp2_with (first | (go_at_call 49; refine (validId_any _ _).mono ?_; rintro e w' ⟨rfl, rfl⟩; rw [hid]) | (go_at_call 51; refine (validLsn_any _ _).mono ?_; rintro e w' ⟨rfl, rfl⟩; rw [hls]))
      go_ret
      exact ⟨by rw [HX.out]; rfl, HF.out⟩
    · have hidf : (decide (0 ≤ p.id) && decide (p.id < 64)) = false := by simpa using hid
      clear hn hid
      go_enter Tryd.func33, Tryd.ntmps33
      go_wp2_with (first | (go_at_call 49; refine (validId_any _ _).mono ?_; rintro e w' ⟨rfl, rfl⟩; rw [hidf]))
      go_ret
      exact ⟨by rw [HX.out]; rfl, HF.out⟩
  · have HNB := Lib.hid hn
    have hid : (decide (0 ≤ p.id) && decide (p.id < 64)) = true := by
      unfold numB at hn
      simp only [Bool.and_eq_true] at hn ⊢
      exact ⟨hn.1, hn.2.1⟩
    have hls : (decide (0 ≤ p.lsn) && decide (p.lsn ≤ 1099511627776)) = true := by
      unfold numB at hn
      simp only [Bool.and_eq_true] at hn ⊢
      exact ⟨hn.2.2.1, hn.2.2.2⟩
    clear hn
    go_enter Tryd.func33, Tryd.ntmps33
    go_wp2_with (first | (go_at_call 49; refine (validId_any _ _).mono ?_; rintro e w' ⟨rfl, rfl⟩; rw [hid]) | (go_at_call 51; refine (validLsn_any _ _).mono ?_; rintro e w' ⟨rfl, rfl⟩; rw [hls]) | (refine wpList_load_mid rfl 25 _ rfl w.heap.size 2 rfl (rowCells p.cells) _ HR.out under_cells rfl (by rw [HRZ.out]; exact info_cells) ?_))
    have HPt : Hid (∀ k (h : k < p.cells.length), (rowCells p.cells).toArray.extract (k * 2) (k * 2 + 2) = #[.bool p.cells[k].set, .string p.cells[k].data]) := fun k h => rowCells_part p.cells k h
    clear hid hls HR HRZ c0 c1
    generalize (rowCells p.cells).toArray = R at *
    go_loopw [17] (fun i wr => ∃ k : Nat, k ≤ 16 ∧ i = .int .i64 k ∧ (p.cells.take k).all (cellB p.lsn) = true ∧ Below (w.heap.size + 1) (w.alloc (.cells C 27)) wr) (fun i _ => 16 - (intOf i).toNat)
    case atStart => exact ⟨0, by omega, rfl, rfl, Below.refl _ _⟩
    case round =>
      obtain ⟨k, hk, rfl, hall, hbr⟩ := hrel
      have HAll := Lib.hid hall
      have HBr := Lib.hid hbr
      clear hall hbr
      by_cases hlt : k < 16
      · have hkl : k < p.cells.length := by rw [HL.out]; exact hlt
        have hA := HA.out.below HBr.out (Nat.lt_succ_self _)
        have c1 := hA.2.1
        have hds := HS.out p.cells[k] (List.getElem_mem hkl)
        have HT : Hid (p.cells.take (k + 1) = p.cells.take k ++ [p.cells[k]]) := List.take_succ_eq_append_getElem hkl
        have HE := Lib.hid (HPt.out k hkl)
        have HM := Lib.hid (List.getElem_mem hkl)
        have HSZ : Hid (w.heap.size + 1 ≤ wr.heap.size) := by show _ ≤ _; have := HBr.out.size; rw [World.size_alloc] at this; exact this
        have HLT : Hid (k < 16) := hlt
        clear hA
        generalize p.cells[k] = c at *
        obtain ⟨st, d⟩ := c
        simp only at hds HE
        go_wp2_with (first | (refine wpList_index_cells rfl _ _ rfl R rfl k rfl HLT.out st d HE.out ?_))
        refine (validCell_any st d _ hds).mono ?_
        rintro e w2 ⟨rfl, hb2⟩
        have HB2 : Hid (Below (w.heap.size + 1) (w.alloc (.cells C 27)) w2) := HBr.out.trans (((Below.refl _ _).alloc HSZ.out _).trans (hb2.mono (by have := HSZ.out; simp; omega)))
        have c1' : w2.cell? ⟨w.heap.size, 1, none⟩ = some (.int .i64 p.lsn) := (HA.out.below HB2.out (Nat.lt_succ_self _)).2.1
        have cs' : w2.cell? ⟨wr.heap.size, 0, none⟩ = some (.bool st) := by rw [hb2.cell (p := ⟨wr.heap.size, 0, none⟩) (by simp)]; simp
        have HBw2 : Hid (Below w.heap.size w w2) := HF.out.trans (HB2.out.mono (by omega))
        clear hb2 c1 hds
        cases hv : cellOkB ⟨st, d⟩
        · have HX : Hid (checkR p = 22) := by
            show _ = _
            unfold checkR
            rw [if_neg (by rw [HNB.out]; decide), if_pos (show cellsB p = false from all_false HM.out (by unfold cellB; rw [hv]; rfl))]
          clear hv
          go_wp2_with fail
          go_ret
          exact ⟨by rw [HX.out]; rfl, HBw2.out⟩
        · cases st
          · have HX : Hid ((p.cells.take (k + 1)).all (cellB p.lsn) = true) := by
              show _ = _
              rw [HT.out, List.all_append, HAll.out]
              simp [cellB, hv]
            clear hv
            go_wp2_with fail
            go_roundw
            case rel => exact ⟨k + 1, by omega, by go_num, HX.out, HB2.out⟩
            case measure => simp [intOf]; omega
          · by_cases hz : p.lsn = 0
            · have hzb : (p.lsn == 0) = true := by rw [hz]; rfl
              have HX : Hid (checkR p = 22) := by
                show _ = _
                unfold checkR
                rw [if_neg (by rw [HNB.out]; decide), if_pos (show cellsB p = false from all_false HM.out (by unfold cellB; rw [hz]; simp))]
              clear hv hz
              go_wp2_with fail
              go_ret
              exact ⟨by rw [HX.out]; rfl, HBw2.out⟩
            · have hzb : (p.lsn == 0) = false := by rw [beq_eq_false_iff_ne]; exact hz
              have HX : Hid ((p.cells.take (k + 1)).all (cellB p.lsn) = true) := by
                show _ = _
                rw [HT.out, List.all_append, HAll.out]
                simp [cellB, hv, hz]
              clear hv hz
              go_wp2_with fail
              go_roundw
              case rel => exact ⟨k + 1, by omega, by go_num, HX.out, HB2.out⟩
              case measure => simp [intOf]; omega
      · obtain rfl : k = 16 := by omega
        have HX : Hid (checkR p = 0) := by
          show _ = _
          have := HAll.out
          rw [List.take_of_length_le (by rw [HL.out]; omega)] at this
          unfold checkR
          rw [if_neg (by rw [HNB.out]; decide), if_neg (by unfold cellsB; rw [this]; decide)]
        go_wp2_with fail
        go_ret
        exact ⟨by rw [HX.out]; rfl, HF.out.trans (HBr.out.mono (by omega))⟩
end Go.Proofs.YtoceglomogcgcaaDoor
