/- the choices of the drawing package: Bytes -/
import Derived.Test.YtoceglomogcgcaaDoorDrCell
namespace Go.Proofs.YtoceglomogcgcaaDoor
open Go.RowKit

/-- what Bytes leaves: some text of a page's length -/
def BytesPost (C : Nat) (w : World) (e : Ending) (w' : World) : Prop :=
  ∃ s : ByteArray, e = .returned (.string s) ∧ s.size = 256 ∧ Besides C w w' ∧ CodesOk w' C
/-- a row of bytes is block B -/
def RowIn (w : World) (B : Nat) (l : List UInt8) : Prop := w.heap[B]? = some (.cells (l.map (fun b => Value.int .u8 (b.toNat : Int))).toArray 5 (0, 0))
theorem RowIn.lt {w : World} {B : Nat} {l : List UInt8} (h : RowIn w B l) : B < w.heap.size := (Array.getElem?_eq_some_iff.1 h).1
theorem RowIn.besides {w w' : World} {B C : Nat} {l : List UInt8} (h : RowIn w B l) (hb : Besides C w w') (hC : B ≠ C) : RowIn w' B l := (hb.block B h.lt hC).trans h
theorem RowIn.cell {w : World} {B : Nat} {l : List UInt8} (h : RowIn w B l) (i : Nat) (hi : i < l.length) : w.cell? ⟨B, i, none⟩ = some (.int .u8 (l[i].toNat : Int)) := by
  unfold RowIn at h
  simp [World.cell?, h, List.getElem?_eq_getElem hi]
theorem RowIn.frozen {w : World} {B : Nat} {l : List UInt8} (h : RowIn w B l) (i : Nat) : w.frozen? ⟨B, i, none⟩ = false := by
  unfold RowIn at h
  simp [World.frozen?, h]
theorem RowIn.set {w : World} {B : Nat} {l : List UInt8} (h : RowIn w B l) (k : Nat) (x : Int) (x0 : 0 ≤ x) (x1 : x ≤ 255) : RowIn (w.setCell ⟨B, k, none⟩ (.int .u8 x)) B (l.set k (UInt8.ofNat x.toNat)) := by
  refine (heap_setCell_same w B k _ _ _ h).trans ?_
  rw [List.setIfInBounds_toArray, List.map_set, UInt8.toNat_ofNat', show ((x.toNat % 2 ^ 8 : Nat) : Int) = x from by omega]
theorem RowIn.conv {w : World} {B : Nat} {l : List UInt8} (h : RowIn w B l) (n c : Nat) (hn : n = l.length) : Sem.run Tryd.prog (convert 22 9 (.slice (some ⟨B, 0, none⟩) n c)) w = .ok (.string ⟨l.toArray⟩) w := by
  subst hn
  refine run_convert_bytes_back (P := Tryd.prog) w 22 9 5 ⟨B, 0, none⟩ c l Tryd.underlying22 Tryd.underlying5 Tryd.underlying9 (fun j hj => ?_)
  have ea : (⟨B, 0, none⟩ : Addr).add j = ⟨B, j, none⟩ := by
    simp only [Addr.add]; split
    · next h => rw [h]
    · simp
  rw [ea]
  exact h.cell j hj

theorem made_row (m : Nat) : Obj.cells (madeCells #[.int .u8 0] m) 5 = .cells ((List.replicate m (0 : UInt8)).map (fun b => Value.int .u8 (b.toNat : Int))).toArray 5 (0, 0) := by
  congr 1
  apply Array.toList_inj.1
  rw [toList_madeCells_one, List.map_replicate]
  rfl
theorem len_rep (m : Nat) : (List.replicate m (0 : UInt8)).length = m := List.length_replicate
set_option maxHeartbeats 1000000 in
theorem bytes_any (C : Nat) (w : World) (h : CodesOk w C) :
    Calls Tryd.prog 24 #[.pointer (some ⟨C, 0, none⟩)] w (BytesPost C w) := by
  have HK := Lib.hid h
  clear h
  have hmk : Sem.run Tryd.prog (Instr.makeSlice 22 (.int .i64 256) (.int .i64 256)) w = .ok (.slice (some ⟨w.heap.size, 0, none⟩) 256 256) (w.alloc (.cells (madeCells #[.int .u8 0] 256) 5)) :=
    run_make_row' 22 5 (.int .u8 0) 1 Tryd.underlying22 info_byte rfl .i64 .i64 256 (by decide) (by decide) w
  rw [made_row] at hmk
  have hlen := len_rep 256
  generalize List.replicate 256 (0 : UInt8) = L0 at hmk hlen
  have HRa : Hid (RowIn (w.alloc (.cells (L0.map (fun b => Value.int .u8 (b.toNat : Int))).toArray 5 (0, 0))) w.heap.size L0) := heap_alloc_last w _
  generalize (L0.map (fun b => Value.int .u8 (b.toNat : Int))).toArray = cells0 at hmk HRa
  have HL0 := Lib.hid hlen
  clear hlen
  go_enter Tryd.func24, Tryd.ntmps24
  go_wp2_with fail
  refine (next_any C 256 _ (HK.out.below ((Below.refl _ _).alloc (Nat.le_refl _) _) HK.out.lt) (by omega)).mono ?_
  rintro e w2 ⟨x, rfl, x0, x1, hb2, hc2⟩
  have x2 : x ≤ 255 := by omega
  have HBC : Hid (w.heap.size ≠ C) := by have := HK.out.lt; show _ ≠ _; omega
  have HCB : Hid (C < w.heap.size) := HK.out.lt
  have HR2 := Lib.hid (HRa.out.besides hb2 HBC.out)
  have HB2 := Lib.hid (((Besides.refl C w).alloc _).trans hb2)
  have HC2 := Lib.hid hc2
  clear hb2 hc2 x1 hmk
  have hwx : IntKind.u8.wrap x = x := IntWalk.u8_in _ ⟨x0, x2⟩
  have HX : Hid (0 ≤ x ∧ x ≤ 255) := ⟨x0, x2⟩
  go_wp2_with fail
  go_loopw [5] (fun i wr => ∃ (k : Nat) (l : List UInt8), k ≤ 256 ∧ i = .int .i64 k ∧ l.length = 256 ∧ RowIn wr w.heap.size l ∧ Besides C w wr ∧ CodesOk wr C) (fun i _ => 256 - (intOf i).toNat)
  case atStart => exact ⟨0, L0, by omega, rfl, HL0.out, HR2.out, HB2.out, HC2.out⟩
  case round =>
    obtain ⟨k, l, hk, rfl, hl, hr, hb, hc⟩ := hrel
    have HL := Lib.hid hl
    have HR := Lib.hid hr
    have HB := Lib.hid hb
    have HC := Lib.hid hc
    clear hl hr hb hc
    by_cases hlt : k < 256
    · have hki : (k : Int) < 256 := by omega
      have c0 := HR.out.cell k (by rw [HL.out]; exact hlt)
      have f0 := HR.out.frozen k
      generalize l[k]'(by rw [HL.out]; exact hlt) = old at c0
      have hkw : IntKind.i64.wrap ((k : Int) + 1) = (k : Int) + 1 := IntWalk.i64_in _ (by omega)
      go_wp2_with fail
      go_roundw
      case rel => exact ⟨k + 1, l.set k (UInt8.ofNat x.toNat), by omega, rfl, by rw [List.length_set]; exact HL.out, HR.out.set k x HX.out.1 HX.out.2, HB.out.then_below ((Below.refl _ _).setCell (p := ⟨w.heap.size, k, none⟩) (Nat.le_refl _) _), HC.out.below ((Below.refl w.heap.size wr).setCell (p := ⟨w.heap.size, k, none⟩) (Nat.le_refl _) _) HCB.out⟩
      case measure => simp [intOf]; omega
    · have hki : ¬ (k : Int) < 256 := by omega
      go_wp2_with fail
      refine (next_any C 256 _ HC.out (by omega)).mono ?_
      rintro e w3 ⟨j, rfl, j0, j1, hb3, hc3⟩
      obtain ⟨j, rfl⟩ := Int.eq_ofNat_of_zero_le j0
      have hj : j < 256 := by omega
      have HR3 := Lib.hid (HR.out.besides hb3 HBC.out)
      have HB3 := Lib.hid (HB.out.trans hb3)
      have HC3 := Lib.hid hc3
      clear hb3 hc3 j0 j1
      go_wp2_with fail
      refine (next_any C 256 _ HC3.out (by omega)).mono ?_
      rintro e w4 ⟨y, rfl, y0, y1, hb4, hc4⟩
      have y2 : y ≤ 255 := by omega
      have HY : Hid (0 ≤ y ∧ y ≤ 255) := ⟨y0, y2⟩
      have hwy : IntKind.u8.wrap y = y := IntWalk.u8_in _ ⟨y0, y2⟩
      have hji : (j : Int) < 256 := by omega
      have HR4 := Lib.hid (HR3.out.besides hb4 HBC.out)
      have HB4 := Lib.hid (HB3.out.trans hb4)
      have HC4 := Lib.hid hc4
      have c0 := HR4.out.cell j (by rw [HL.out]; exact hj)
      have f0 := HR4.out.frozen j
      generalize l[j]'(by rw [HL.out]; exact hj) = old at c0
      have hcv := (HR4.out.set j y y0 y2).conv 256 256 (by rw [List.length_set]; exact HL.out.symm)
      clear hb4 hc4 y1
      go_wp2_with fail
      go_ret
      exact ⟨_, rfl, by show (List.toArray _).size = 256; rw [List.size_toArray, List.length_set]; exact HL.out, HB4.out.then_below ((Below.refl _ _).setCell (p := ⟨w.heap.size, j, none⟩) (Nat.le_refl _) _), HC4.out.below ((Below.refl w.heap.size w4).setCell (p := ⟨w.heap.size, j, none⟩) (Nat.le_refl _) _) HCB.out⟩
end Go.Proofs.YtoceglomogcgcaaDoor
