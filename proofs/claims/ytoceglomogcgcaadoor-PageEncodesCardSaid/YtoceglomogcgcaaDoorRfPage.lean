/- pages as values, and the walks of the reference's checks of pages -/
import Derived.Test.YtoceglomogcgcaaDoorRfNum
import Derived.Deep.MidRow
import Derived.Deep.OwnRows
namespace Go.Proofs.YtoceglomogcgcaaDoor
open Go.RowKit

structure Cl where
  set : Bool
  data : ByteArray
structure Pg where
  id : Int
  lsn : Int
  cells : List Cl
def clCells (c : Cl) : List Value := [.bool c.set, .string c.data]
def clV (c : Cl) : Value := .agg (clCells c).toArray
def rowCells (l : List Cl) : List Value := l.flatMap clCells
def pgCells (p : Pg) : List Value := .int .i64 p.id :: .int .i64 p.lsn :: rowCells p.cells
def pgV (p : Pg) : Value := .agg (pgCells p).toArray

theorem rowCells_get : ∀ (l : List Cl) (k : Nat) (h : k < l.length), (rowCells l)[2 * k]? = some (.bool l[k].set) ∧ (rowCells l)[2 * k + 1]? = some (.string l[k].data)
  | [], k, h => by simp at h
  | c :: l, 0, _ => ⟨rfl, rfl⟩
  | c :: l, k + 1, h => by
    have := rowCells_get l k (by simpa using h)
    exact this
theorem pgCells_get (p : Pg) (k : Nat) (h : k < p.cells.length) : (pgCells p)[2 + 2 * k]? = some (.bool p.cells[k].set) ∧ (pgCells p)[2 + 2 * k + 1]? = some (.string p.cells[k].data) := by
  have := rowCells_get p.cells k h
  rw [show 2 + 2 * k = (2 * k + 1) + 1 from by omega]
  exact this
theorem rowCells_length (l : List Cl) : (rowCells l).length = 2 * l.length := by
  induction l with
  | nil => rfl
  | cons c l ih => show (clCells c ++ rowCells l).length = _; rw [List.length_append, ih, List.length_cons]; simp only [clCells, List.length_cons, List.length_nil]; omega
theorem pgCells_length (p : Pg) : (pgCells p).length = 2 + 2 * p.cells.length := by
  show (rowCells p.cells).length + 1 + 1 = _
  rw [rowCells_length]; omega

def cellOkB (c : Cl) : Bool := decide (c.data.size ≤ 12) && (c.set || decide (c.data.size = 0))

set_option maxHeartbeats 400000 in
theorem rvalidCell (st : Bool) (d : ByteArray) (w : World) (hs : d.size ≤ maxLen) :
    Calls Tryd.prog 54 #[.agg #[.bool st, .string d]] w fun e w' => e = .returned (.bool (cellOkB ⟨st, d⟩)) ∧ Below w.heap.size w w' := by
  unfold maxLen at hs
  unfold cellOkB
  simp only
  have fin : Below w.heap.size w (w.alloc (.cells #[.bool st, .string d] 24)) := (Below.refl _ _).alloc (Nat.le_refl _) _
  by_cases h1 : d.size ≤ 12
  · have d1 : decide ((d.size : Int) ≤ 12) = true := by simp; omega
    cases st
    · have hd : d.toList.isEmpty = decide (d.size = 0) := by
        rw [ByteArray.toList_eq, Bool.eq_iff_iff, List.isEmpty_iff, decide_eq_true_iff, ← size_list]
        exact List.length_eq_zero_iff.symm
      cases h0 : decide (d.size = 0)
      · rw [h0] at hd
        go_enter Tryd.func54, Tryd.ntmps54
        go_wp2
        go_ret
        exact ⟨by simp [h1], fin⟩
      · rw [h0] at hd
        go_enter Tryd.func54, Tryd.ntmps54
        go_wp2
        go_ret
        exact ⟨by simp [h1], fin⟩
    · go_enter Tryd.func54, Tryd.ntmps54
      go_wp2
      go_ret
      exact ⟨by simp [h1], fin⟩
  · have d1 : decide ((d.size : Int) ≤ 12) = false := by simp; omega
    go_enter Tryd.func54, Tryd.ntmps54
    go_wp2
    go_ret
    exact ⟨by simp [h1], fin⟩
def numB (p : Pg) : Bool := decide (0 ≤ p.id) && (decide (p.id < 64) && (decide (0 ≤ p.lsn) && decide (p.lsn ≤ 1099511627776)))
set_option maxHeartbeats 400000 in
theorem rnumbers (p : Pg) (w : World) :
    Calls Tryd.prog 43 #[pgV p] w fun e w' => e = .returned (.bool (numB p)) ∧ Below w.heap.size w w' := by
  have e0 : (pgCells p)[0]? = some (.int .i64 p.id) := rfl
  have e1 : (pgCells p)[1]? = some (.int .i64 p.lsn) := rfl
  unfold pgV numB
  obtain ⟨id, lsn, cells⟩ := p
  simp only at e0 e1 ⊢
  generalize pgCells ⟨id, lsn, cells⟩ = C at *
  have fin : Below w.heap.size w (w.alloc (.cells C.toArray 27)) := (Below.refl _ _).alloc (Nat.le_refl _) _
  have c0 : (w.alloc (.cells C.toArray 27)).cell? ⟨w.heap.size, 0, none⟩ = some (.int .i64 id) := by rw [World.cell?_alloc_new]; simpa using e0
  have c1 : (w.alloc (.cells C.toArray 27)).cell? ⟨w.heap.size, 1, none⟩ = some (.int .i64 lsn) := by rw [World.cell?_alloc_new]; simpa using e1
  clear e0 e1
  by_cases h0 : 0 ≤ id
  · by_cases h1 : id < 64
    · by_cases h2 : 0 ≤ lsn
      · by_cases h3 : lsn ≤ 1099511627776
        · go_enter Tryd.func43, Tryd.ntmps43
          go_wp2
          go_ret
          exact ⟨by simp [h0, h1, h2, h3], fin⟩
        · go_enter Tryd.func43, Tryd.ntmps43
          go_wp2
          go_ret
          exact ⟨by simp; omega, fin⟩
      · go_enter Tryd.func43, Tryd.ntmps43
        go_wp2
        go_ret
        exact ⟨by simp; omega, fin⟩
    · go_enter Tryd.func43, Tryd.ntmps43
      go_wp2
      go_ret
      exact ⟨by simp; omega, fin⟩
  · go_enter Tryd.func43, Tryd.ntmps43
    go_wp2
    go_ret
    exact ⟨by simp; omega, fin⟩

def cellB (lsn : Int) (c : Cl) : Bool := cellOkB c && !(decide (lsn = 0) && c.set)
def cellsB (p : Pg) : Bool := p.cells.all (cellB p.lsn)
/-- a page lies at block B, from its first cell on -/
def PgAt (w : World) (B : Nat) (p : Pg) : Prop :=
  w.cell? ⟨B, 0, none⟩ = some (.int .i64 p.id) ∧ w.cell? ⟨B, 1, none⟩ = some (.int .i64 p.lsn) ∧
  ∀ k (h : k < p.cells.length), w.cell? ⟨B, 2 + k * 2, none⟩ = some (.bool p.cells[k].set) ∧ w.cell? ⟨B, 2 + k * 2 + 1, none⟩ = some (.string p.cells[k].data)
theorem pgAt_alloc (w : World) (p : Pg) (t : TypeId) : PgAt (w.alloc (.cells (pgCells p).toArray t)) w.heap.size p := by
  refine ⟨by rw [World.cell?_alloc_new]; rfl, by rw [World.cell?_alloc_new]; rfl, fun k h => ?_⟩
  rw [World.cell?_alloc_new, World.cell?_alloc_new]
  have := pgCells_get p k h
  rw [show 2 + 2 * k = 2 + k * 2 from by omega] at this
  simpa using this
theorem PgAt.below {w w' : World} {B B' : Nat} {p : Pg} (h : PgAt w B p) (hb : Below B' w w') (hB : B < B') : PgAt w' B p := by
  obtain ⟨h0, h1, h2⟩ := h
  refine ⟨by rw [hb.cell (p := ⟨B, 0, none⟩) hB]; exact h0, by rw [hb.cell (p := ⟨B, 1, none⟩) hB]; exact h1, fun k hk => ?_⟩
  rw [hb.cell (p := ⟨B, 2 + k * 2, none⟩) hB, hb.cell (p := ⟨B, 2 + k * 2 + 1, none⟩) hB]
  exact h2 k hk

theorem all_false {α : Type} {l : List α} {f : α → Bool} {c : α} (h : c ∈ l) (hf : f c = false) : l.all f = false := by
  rw [List.all_eq_false]; exact ⟨c, h, by rw [hf]; decide⟩
theorem ret_bool {a b : Bool} (h : a = b) : Ending.returned (.bool a) = .returned (.bool b) := by rw [h]
set_option maxHeartbeats 1000000 in
theorem rcells (p : Pg) (w : World) (hl : p.cells.length = 16) (hs : ∀ c ∈ p.cells, c.data.size ≤ maxLen) :
    Calls Tryd.prog 44 #[pgV p] w fun e w' => e = .returned (.bool (cellsB p)) ∧ Below w.heap.size w w' := by
  have HL := Lib.hid hl
  have HS := Lib.hid hs
  have HA := Lib.hid (pgAt_alloc w p 27)
  have hfin : Below w.heap.size w (w.alloc (.cells (pgCells p).toArray 27)) := (Below.refl _ _).alloc (Nat.le_refl _) _
  have HF := Lib.hid hfin
  clear hl hs hfin
  unfold pgV
  generalize (pgCells p).toArray = C at *
  go_enter Tryd.func44, Tryd.ntmps44
  go_wp2_with fail
  go_loopw [3] (fun i wr => ∃ k : Nat, k ≤ 16 ∧ i = .int .i64 k ∧ (p.cells.take k).all (cellB p.lsn) = true ∧ Below (w.heap.size + 1) (w.alloc (.cells C 27)) wr) (fun i _ => 16 - (intOf i).toNat)
  case atStart => exact ⟨0, by omega, rfl, rfl, Below.refl _ _⟩
  case round =>
    obtain ⟨k, hk, rfl, hall, hbr⟩ := hrel
    have HAll := Lib.hid hall
    have HBr := Lib.hid hbr
    clear hall hbr
    by_cases hlt : k < 16
    · have hkl : k < p.cells.length := by rw [HL.out]; exact hlt
      have hA := HA.out.below HBr.out (Nat.lt_succ_self _)
      have c1 := hA.2.1
      obtain ⟨cs, cd⟩ := hA.2.2 k hkl
      have hds := HS.out p.cells[k] (List.getElem_mem hkl)
      have HT : Hid (p.cells.take (k + 1) = p.cells.take k ++ [p.cells[k]]) := List.take_succ_eq_append_getElem hkl
      clear hA
      have HM := Lib.hid (List.getElem_mem hkl)
      generalize p.cells[k] = c at *
      obtain ⟨st, d⟩ := c
      simp only at cs cd hds
      go_wp2_with fail
      refine (rvalidCell st d _ hds).mono ?_
      rintro e w2 ⟨rfl, hb2⟩
      have c1' : w2.cell? ⟨w.heap.size, 1, none⟩ = some (.int .i64 p.lsn) := by rw [hb2.cell (p := ⟨w.heap.size, 1, none⟩) (Nat.lt_of_lt_of_le (Nat.lt_succ_self _) (by have := HBr.out.size; rw [World.size_alloc] at this; exact this))]; exact c1
      have cs' : w2.cell? ⟨w.heap.size, 2 + k * 2, none⟩ = some (.bool st) := by rw [hb2.cell (p := ⟨w.heap.size, 2 + k * 2, none⟩) (Nat.lt_of_lt_of_le (Nat.lt_succ_self _) (by have := HBr.out.size; rw [World.size_alloc] at this; exact this))]; exact cs
      have HB2 : Hid (Below (w.heap.size + 1) (w.alloc (.cells C 27)) w2) := HBr.out.trans (hb2.mono (by have := HBr.out.size; rw [World.size_alloc] at this; exact this))
      have HBw2 : Hid (Below w.heap.size w w2) := HF.out.trans (HB2.out.mono (by omega))
      clear hb2 c1 cs cd hds
      cases hv : cellOkB ⟨st, d⟩
      · have HX : Hid (cellsB p = false) := all_false HM.out (by unfold cellB; rw [hv]; rfl)
        clear hv
        go_wp2_with fail
        go_ret
        exact ⟨ret_bool HX.out.symm, HBw2.out⟩
      · by_cases hz : p.lsn = 0
        · have hzb : (p.lsn == 0) = true := by rw [hz]; rfl
          cases st
          · have HX : Hid ((p.cells.take (k + 1)).all (cellB p.lsn) = true) := by
              show _ = _
              rw [HT.out, List.all_append, HAll.out]
              simp [cellB, hv]
            clear hv hz
            go_wp2_with fail
            go_roundw
            case rel => exact ⟨k + 1, by omega, by go_num, HX.out, HB2.out⟩
            case measure => simp [intOf]; omega
          · have HX : Hid (cellsB p = false) := all_false HM.out (by unfold cellB; rw [hz]; simp)
            clear hv hz
            go_wp2_with fail
            go_ret
            exact ⟨ret_bool HX.out.symm, HBw2.out⟩
        · have hzb : (p.lsn == 0) = false := by rw [beq_eq_false_iff_ne]; exact hz
          have HX : Hid ((p.cells.take (k + 1)).all (cellB p.lsn) = true) := by
            show _ = _
            rw [HT.out, List.all_append, HAll.out]
            simp [cellB, hv, hz]
          clear hv hz
          go_wp2_with fail
          go_roundw
          case rel => exact ⟨k + 1, by omega, by go_num, HX.out, HB2.out⟩
          case measure => simp [intOf]; omega
    · obtain rfl : k = 16 := by omega
      have HX : Hid (cellsB p = true) := by
        show _ = _
        have := HAll.out
        rw [List.take_of_length_le (by rw [HL.out]; omega)] at this
        exact this
      go_wp2_with fail
      go_ret
      exact ⟨ret_bool HX.out.symm, HF.out.trans (HBr.out.mono (by omega))⟩

/-- what the reference's check of a page answers -/
def checkR (p : Pg) : Int := if numB p = false then 1 else if cellsB p = false then 22 else 0
theorem info_page : (Tryd.prog.info? 27).map (·.size) = some 34 := by kernel_rfl
theorem under_page : ∃ fs, Tryd.prog.underlying 27 = some (.struct fs) := ⟨_, Tryd.underlying27⟩
theorem heap_alloc_last (w : World) (o : Obj) : (w.alloc o).heap[w.heap.size]? = some o := by
  show (w.heap.push o)[w.heap.size]? = some o
  simp
set_option maxHeartbeats 1000000 in
theorem rcheck (p : Pg) (w : World) (hl : p.cells.length = 16) (hs : ∀ c ∈ p.cells, c.data.size ≤ maxLen) :
    Calls Tryd.prog 39 #[pgV p] w fun e w' => e = .returned (.int .i64 (checkR p)) ∧ Below w.heap.size w w' := by
  have HN : Hid (∀ w' : World, Calls Tryd.prog 43 #[.agg (pgCells p).toArray] w' fun e w'' => e = .returned (.bool (numB p)) ∧ Below w'.heap.size w' w'') := fun w' => rnumbers p w'
  have HC : Hid (∀ w' : World, Calls Tryd.prog 44 #[.agg (pgCells p).toArray] w' fun e w'' => e = .returned (.bool (cellsB p)) ∧ Below w'.heap.size w' w'') := fun w' => rcells p w' hl hs
  have HZ : Hid ((pgCells p).toArray.size = 34) := by show _ = _; rw [List.size_toArray, pgCells_length, hl]
  clear hl hs
  unfold pgV
  generalize (pgCells p).toArray = C at *
  have hg1 : (w.alloc (.cells C 27)).heap[w.heap.size]? = some (.cells C 27 (0, 0)) := heap_alloc_last w _
  have HG1 := Lib.hid hg1
  have hbw : Below w.heap.size w (w.alloc (.cells C 27)) := (Below.refl _ _).alloc (Nat.le_refl _) _
  have HBw := Lib.hid hbw
  clear hg1 hbw
  obtain ⟨fs, hu⟩ := under_page
  have HU := Lib.hid hu
  clear hu
  go_enter Tryd.func39, Tryd.ntmps39
  go_wp2_with (refine wpList_load_row rfl 27 _ rfl w.heap.size rfl 27 C (0, 0) _ HG1.out HU.out rfl (by rw [HZ.out]; exact info_page) ?_)
  refine (HN.out _).mono ?_
  rintro e w2 ⟨rfl, hb1⟩
  have HG2 : Hid (w2.heap[w.heap.size]? = some (.cells C 27 (0, 0))) := (hb1.block _ (by simp)).trans HG1.out
  have HB2 := Lib.hid (HBw.out.trans (hb1.mono (by simp)))
  clear hb1
  cases hn : numB p
  · have HX : Hid (checkR p = 1) := by show _ = _; unfold checkR; rw [if_pos hn]
    clear hn
    go_wp2_with fail
    go_ret
    exact ⟨by rw [HX.out]; rfl, HB2.out⟩
  · have HNB := Lib.hid hn
    clear hn
    go_wp2_with (refine wpList_load_row rfl 27 _ rfl w.heap.size rfl 27 C (0, 0) _ HG2.out HU.out rfl (by rw [HZ.out]; exact info_page) ?_)
    refine (HC.out _).mono ?_
    rintro e w3 ⟨rfl, hb3⟩
    have HB3 := Lib.hid (HB2.out.trans (hb3.mono HB2.out.size))
    clear hb3
    cases hc : cellsB p
    · have HX : Hid (checkR p = 22) := by show _ = _; unfold checkR; rw [if_neg (by rw [HNB.out]; decide), if_pos hc]
      clear hc
      go_wp2_with fail
      go_ret
      exact ⟨by rw [HX.out]; rfl, HB3.out⟩
    · have HX : Hid (checkR p = 0) := by show _ = _; unfold checkR; rw [if_neg (by rw [HNB.out]; decide), if_neg (by rw [hc]; decide)]
      clear hc
      go_wp2_with fail
      go_ret
      exact ⟨by rw [HX.out]; rfl, HB3.out⟩

theorem info_byte : (Tryd.prog.info? 5).map (fun i => (i.zero, i.size, i.bytes)) = some (some (.int .u8 0), 1, 1) := by kernel_rfl
def zeroS (n : Nat) : ByteArray := ⟨(List.replicate n 0).toArray⟩
theorem zeroS_size (n : Nat) : (zeroS n).size = n := by show (List.replicate n (0 : UInt8)).toArray.size = n; simp
theorem zeros_conv (w : World) (m : Nat) : Sem.run Tryd.prog (convert 22 9 (.slice (some ⟨w.heap.size, 0, none⟩) m m)) (w.alloc (.cells (madeCells #[.int .u8 0] m) 5)) = .ok (.string (zeroS m)) (w.alloc (.cells (madeCells #[.int .u8 0] m) 5)) := by
  have := run_convert_bytes_back (P := Tryd.prog) (w.alloc (.cells (madeCells #[.int .u8 0] m) 5)) 22 9 5 ⟨w.heap.size, 0, none⟩ m (List.replicate m 0) Tryd.underlying22 Tryd.underlying5 Tryd.underlying9 (fun j hj => by
    have ea : (⟨w.heap.size, 0, none⟩ : Addr).add j = ⟨w.heap.size, j, none⟩ := by
      simp only [Addr.add]; split
      · next h => rw [h]
      · simp
    have hl := toList_madeCells_one (.int .u8 0) m
    rw [ea, World.cell?_alloc_new, ← Array.getElem?_toList, hl, List.getElem?_replicate, if_pos (by simpa using hj), List.getElem_replicate]
    rfl)
  rw [List.length_replicate] at this
  exact this
set_option maxHeartbeats 400000 in
theorem rzeros (m : Nat) (w : World) (hm : m ≤ 1048576) :
    Calls Tryd.prog 41 #[.int .i64 m] w fun e w' => e = .returned (.string (zeroS m)) ∧ Below w.heap.size w w' := by
  have hmk : Sem.run Tryd.prog (Instr.makeSlice 22 (.int .i64 (m : Int)) (.int .i64 (m : Int))) w = .ok (.slice (some ⟨w.heap.size, 0, none⟩) m m) (w.alloc (.cells (madeCells #[.int .u8 0] m) 5)) :=
    run_make_row' 22 5 (.int .u8 0) 1 Tryd.underlying22 info_byte rfl .i64 .i64 m (by omega) (by omega) w
  have hcv := zeros_conv w m
  go_enter Tryd.func41, Tryd.ntmps41
  go_wp2_with fail
  go_ret
  exact ⟨rfl, (Below.refl _ _).alloc (Nat.le_refl _) _⟩
end Go.Proofs.YtoceglomogcgcaaDoor
