/- what all laws of chapter 2 begin with: the sanity check, the choices, the pages that are drawn -/
import Derived.Test.YtoceglomogcgcaaDoorPgId
import Derived.Test.YtoceglomogcgcaaDoorDrNew
import Derived.Test.YtoceglomogcgcaaDoorDrOdd
import Derived.RegionTactic
import Derived.BigRegion
import Derived.Deep.RegionWith
namespace Go.Proofs.YtoceglomogcgcaaDoor
open Go.RowKit

theorem new3_check : checkR (newPg 3) = 0 := by kernel_rfl
theorem newPg_small (id : Int) : ∀ c ∈ (newPg id).cells, c.data.size ≤ maxLen := by
  intro c hc
  have : c = emptyCl := List.eq_of_mem_replicate hc
  subst this
  decide
set_option maxHeartbeats 1000000 in
theorem awake_page (w : World) (ht : TabAt w) : Calls Tryd.prog 10 #[] w fun e w' => e = .returned (.bool true) ∧ Below w.heap.size w w' := by
  have HT := Lib.hid ht
  clear ht
  have hsz : (ofL (encL (newPg 3))).size = 256 := by rw [ofL_size, encL_length (newPg 3) rfl (small_of_check new3_check)]
  have hE : encR (newPg 3) = (ofL (encL (newPg 3)), 0) := by unfold encR; rw [if_pos new3_check]
  have h8 : (ofL (encL (newPg 3)))[8].toNat = 3 := by
    have := getD_at (ofL (encL (newPg 3))) 8 (by omega)
    rw [ofL_list] at this
    rw [← this, show (8 : Nat) = 8 + 0 from rfl, encL_get_id _ 0 (by omega)]
    rfl
  have HEn : Hid (∀ w' : World, TabAt w' → Calls Tryd.prog 15 #[pgV (newPg 3)] w' fun e w'' => e = .returned (.tuple #[.string (ofL (encL (newPg 3))), .int .i64 0]) ∧ Below w'.heap.size w' w'') := fun w' ht' => by
    have := encode_any (newPg 3) w' rfl (newPg_small 3) ht'
    rw [hE] at this
    exact this
  clear hE
  obtain ⟨Z, hz8, hsz, h8, HEn⟩ : ∃ (Z : ByteArray) (h8 : 8 < Z.size), Z.size = 256 ∧ Z[8].toNat = 3 ∧ Hid (∀ w' : World, TabAt w' → Calls Tryd.prog 15 #[pgV (newPg 3)] w' fun e w'' => e = .returned (.tuple #[.string Z, .int .i64 0]) ∧ Below w'.heap.size w' w'') := ⟨_, by omega, hsz, h8, HEn⟩
  have h8b : ((Z[8].toNat : Int) == 3) = true := by rw [h8]; rfl
  have hzi : (Z.size : Int) = 256 := by omega
  clear h8
  go_enter Tryd.func10, Tryd.ntmps10
  go_wp2_with fail
  refine (new_page 3 _).mono ?_
  rintro e w1 ⟨rfl, hb1⟩
  have HT1 := Lib.hid (HT.out.below hb1)
  have HB1 := Lib.hid hb1
  clear hb1
  generalize pgV (newPg 3) = V at *
  go_wp2_with fail
  refine (HEn.out _ HT1.out).mono ?_
  rintro e w2 ⟨rfl, hb2⟩
  have HB2 := Lib.hid (HB1.out.trans (hb2.mono HB1.out.size))
  clear hb2
  go_wp2_with fail
  go_ret
  exact ⟨rfl, HB2.out⟩
/-- the codes' own slice -/
def CodesRow (W : World) (B : Nat) (a : Option Addr) (len : Nat) : Prop := ∃ l c, W.cell? ⟨B, 0, none⟩ = some (.slice a l c) ∧ (0 < l → 0 < len)
set_option maxHeartbeats 400000 in
theorem new_at (m : Nat) (hm : m ≤ 1000) (a : Option Addr) (len cap : Nat) (zs : List Int) (w : World) (h : IsRow .u8 w a len cap zs) :
    Calls Tryd.prog 11 #[.slice a len cap, .int .i64 m] w fun e w' => e = .returned (.pointer (some ⟨w.heap.size, 0, none⟩)) ∧ Below w.heap.size w w' ∧ CodesOk w' w.heap.size ∧ CodesRow w' w.heap.size a len := by
  by_cases hl : m < len
  · have HK := Lib.hid (codes_of_row h m cap (by omega) (by omega))
    rcases h with ⟨_, h, _, _⟩ | ⟨x, rfl, hlc, hcm, hz, _, _⟩
    · omega
    · have hcap : (m : Int) ≤ (cap : Int) := by omega
      have hi : (m : Int) < (len : Int) := by omega
      have hm0 : (0 : Int) ≤ (m : Int) := by omega
      have HL : Hid (m < len) := hl
      clear hz
      go_enter Tryd.func11, Tryd.ntmps11
      go_wp2
      go_ret
      exact ⟨rfl, (Below.refl _ _).alloc (Nat.le_refl _) _, HK.out, ⟨_, _, by rw [World.cell?_alloc_new]; rfl, fun _ => by have := HL.out; omega⟩⟩
  · have hle : len ≤ 4611686018427387904 := by omega
    have HK := Lib.hid (codes_of_row h len cap (Nat.le_refl _) hle)
    have hi : ¬ ((m : Int) < (len : Int)) := by omega
    clear h
    go_enter Tryd.func11, Tryd.ntmps11
    go_wp2
    go_ret
    refine ⟨rfl, (Below.refl _ _).alloc (Nat.le_refl _) _, HK.out, ⟨len, cap, ?_, fun h0 => h0⟩⟩
    rw [World.cell?_alloc_new]
    rfl
theorem new_to (m : Nat) (hm : m ≤ 1000) (a : Option Addr) (len cap : Nat) (zs : List Int) (w : World) (h : IsRow .u8 w a len cap zs) :
    Calls Tryd.prog 11 #[.slice a len cap, .int .i64 m] w fun e w' => e = .returned (.pointer (some ⟨w.heap.size, 0, none⟩)) ∧ Below w.heap.size w w' ∧ CodesOk w' w.heap.size :=
  (new_at m hm a len cap zs w h).mono fun _ _ h => ⟨h.1, h.2.1, h.2.2.1⟩
theorem row_below {w w1 : World} {x : Option Addr} {len cap : Nat} {zs : List Int} (hr : IsRow .u8 w x len cap zs) (hb : Below w.heap.size w w1) : IsRow .u8 w1 x len cap zs := by
  rcases hr with h | ⟨b, hb1, hb2, hb3, hb4, hb5, hb6⟩
  · exact .inl h
  · refine .inr ⟨b, hb1, hb2, hb3, hb4, fun j hj => ?_, hb6⟩
    have hc := hb5 j hj
    rw [hb.cell (World.block_lt_of_cell? w _ hc)]
    exact hc
/-- the pages that are drawn -/
structure Drawn (p : Pg) (id : Int) : Prop where
  id : p.id = id
  len : p.cells.length = 16
  lsn0 : 0 ≤ p.lsn
  lsn1 : p.lsn ≤ 1099511627776
  cells : cellsB p = true
theorem Drawn.check {p : Pg} {id : Int} (h : Drawn p id) (h0 : 0 ≤ id) (h1 : id < 64) : checkR p = 0 := by
  unfold checkR
  have : numB p = true := by unfold numB; simp [h.id, h0, h1, h.lsn0, h.lsn1]
  rw [if_neg (by rw [this]; decide), if_neg (by rw [h.cells]; decide)]
theorem Drawn.data {p : Pg} {id : Int} (h : Drawn p id) : ∀ c ∈ p.cells, c.data.size ≤ 12 := by
  intro c hc
  have := h.cells
  unfold cellsB at this
  rw [List.all_eq_true] at this
  have := this c hc
  unfold cellB cellOkB at this
  simp at this
  exact this.1.1
theorem small_max {p : Pg} (h : ∀ c ∈ p.cells, c.data.size ≤ 12) : ∀ c ∈ p.cells, c.data.size ≤ maxLen := fun c hc => by have := h c hc; unfold maxLen; omega
theorem draw_page (C : Nat) (id : Int) (w : World) (h : CodesOk w C) :
    Calls Tryd.prog 12 #[.pointer (some ⟨C, 0, none⟩), .int .i64 id] w fun e w' => ∃ p : Pg, e = .returned (.agg (pgCells p).toArray) ∧ Drawn p id ∧ Besides C w w' ∧ CodesOk w' C :=
  (page_any C id w h).mono (by rintro e w' ⟨p, rfl, h1, h2, h3, h4, h5, h6, h7⟩; exact ⟨p, rfl, ⟨h1, h2, h3, h4, h5⟩, h6, h7⟩)
/-- a valid page's bytes -/
theorem enc_ok {p : Pg} (hc : checkR p = 0) (hl : p.cells.length = 16) (w : World) (ht : TabAt w) :
    Calls Tryd.prog 15 #[.agg (pgCells p).toArray] w fun e w' => e = .returned (.tuple #[.string (ofL (encL p)), .int .i64 0]) ∧ Below w.heap.size w w' := by
  have := encode_any p w hl (small_max (small_of_check hc)) ht
  rw [show encR p = (ofL (encL p), 0) from by unfold encR; rw [if_pos hc]] at this
  exact this
theorem enc_size {p : Pg} (hc : checkR p = 0) (hl : p.cells.length = 16) : (ofL (encL p)).size = 256 := by rw [ofL_size, encL_length p hl (small_of_check hc)]
end Go.Proofs.YtoceglomogcgcaaDoor
