/- what all laws begin with: the choices, the pages that are drawn -/
import Derived.Test.YtbadfcnkpeohfaaDrNew
import Derived.Test.YtbadfcnkpeohfaaDrOdd
import Derived.Test.YtbadfcnkpeohfaaPgEq
import Derived.RegionTactic
import Derived.BigRegion
import Derived.Deep.RegionWith
namespace Go.Proofs.Ytbadfcnkpeohfaa
open Go.RowKit

theorem newPg_small (id : Int) : ∀ c ∈ (newPg id).cells, c.data.size ≤ maxLen := by
  intro c hc
  have : c = emptyCl := List.eq_of_mem_replicate hc
  subst this
  decide
/-- the codes' own slice -/
def CodesRow (W : World) (B : Nat) (a : Option Addr) (len : Nat) : Prop := ∃ l c, W.cell? ⟨B, 0, none⟩ = some (.slice a l c) ∧ (0 < l → 0 < len)
set_option maxHeartbeats 400000 in
theorem new_at (m : Nat) (hm : m ≤ 1000) (a : Option Addr) (len cap : Nat) (zs : List Int) (w : World) (h : IsRow .u8 w a len cap zs) :
    Calls Try.prog 8 #[.slice a len cap, .int .i64 m] w fun e w' => e = .returned (.pointer (some ⟨w.heap.size, 0, none⟩)) ∧ Below w.heap.size w w' ∧ CodesOk w' w.heap.size ∧ CodesRow w' w.heap.size a len := by
  by_cases hl : m < len
  · have HK := Lib.hid (codes_of_row h m cap (by omega) (by omega))
    rcases h with ⟨_, h, _, _⟩ | ⟨x, rfl, hlc, hcm, hz, _, _⟩
    · omega
    · have hcap : (m : Int) ≤ (cap : Int) := by omega
      have hi : (m : Int) < (len : Int) := by omega
      have hm0 : (0 : Int) ≤ (m : Int) := by omega
      have HL : Hid (m < len) := hl
      clear hz
      go_enter Try.func8, Try.ntmps8
      go_wp2
      go_ret
      exact ⟨rfl, (Below.refl _ _).alloc (Nat.le_refl _) _, HK.out, ⟨_, _, by rw [World.cell?_alloc_new]; rfl, fun _ => by have := HL.out; omega⟩⟩
  · have hle : len ≤ 4611686018427387904 := by omega
    have HK := Lib.hid (codes_of_row h len cap (Nat.le_refl _) hle)
    have hi : ¬ ((m : Int) < (len : Int)) := by omega
    clear h
    go_enter Try.func8, Try.ntmps8
    go_wp2
    go_ret
    refine ⟨rfl, (Below.refl _ _).alloc (Nat.le_refl _) _, HK.out, ⟨len, cap, ?_, fun h0 => h0⟩⟩
    rw [World.cell?_alloc_new]
    rfl
theorem new_to (m : Nat) (hm : m ≤ 1000) (a : Option Addr) (len cap : Nat) (zs : List Int) (w : World) (h : IsRow .u8 w a len cap zs) :
    Calls Try.prog 8 #[.slice a len cap, .int .i64 m] w fun e w' => e = .returned (.pointer (some ⟨w.heap.size, 0, none⟩)) ∧ Below w.heap.size w w' ∧ CodesOk w' w.heap.size :=
  (new_at m hm a len cap zs w h).mono fun _ _ h => ⟨h.1, h.2.1, h.2.2.1⟩
theorem row_below {w w1 : World} {x : Option Addr} {len cap : Nat} {zs : List Int} (hr : IsRow .u8 w x len cap zs) (hb : Below w.heap.size w w1) : IsRow .u8 w1 x len cap zs := by
  rcases hr with h | ⟨b, hb1, hb2, hb3, hb4, hb5, hb6⟩
  · exact .inl h
  · refine .inr ⟨b, hb1, hb2, hb3, hb4, fun j hj => ?_, hb6⟩
    have hc := hb5 j hj
    rw [hb.cell (World.block_lt_of_cell? w _ hc)]
    exact hc
/-- the pages that are drawn -/
structure Drawn (p : Pg) (id : Int) : Prop where
  id : p.id = id
  len : p.cells.length = 16
  lsn0 : 0 ≤ p.lsn
  lsn1 : p.lsn ≤ 1099511627776
  cells : cellsB p = true
theorem Drawn.check {p : Pg} {id : Int} (h : Drawn p id) (h0 : 0 ≤ id) (h1 : id < 64) : checkR p = 0 := by
  unfold checkR
  have : numB p = true := by unfold numB; simp [h.id, h0, h1, h.lsn0, h.lsn1]
  rw [if_neg (by rw [this]; decide), if_neg (by rw [h.cells]; decide)]
theorem Drawn.data {p : Pg} {id : Int} (h : Drawn p id) : ∀ c ∈ p.cells, c.data.size ≤ 12 := by
  intro c hc
  have := h.cells
  unfold cellsB at this
  rw [List.all_eq_true] at this
  have := this c hc
  unfold cellB cellOkB at this
  simp at this
  exact this.1.1
theorem small_max {p : Pg} (h : ∀ c ∈ p.cells, c.data.size ≤ 12) : ∀ c ∈ p.cells, c.data.size ≤ maxLen := fun c hc => by have := h c hc; unfold maxLen; omega
theorem draw_page (C : Nat) (id : Int) (w : World) (h : CodesOk w C) :
    Calls Try.prog 9 #[.pointer (some ⟨C, 0, none⟩), .int .i64 id] w fun e w' => ∃ p : Pg, e = .returned (.agg (pgCells p).toArray) ∧ Drawn p id ∧ Besides C w w' ∧ CodesOk w' C :=
  (page_any C id w h).mono (by rintro e w' ⟨p, rfl, h1, h2, h3, h4, h5, h6, h7⟩; exact ⟨p, rfl, ⟨h1, h2, h3, h4, h5⟩, h6, h7⟩)
theorem good_of {p : Pg} (hl : p.cells.length = 16) (hd : ∀ c ∈ p.cells, c.data.size ≤ 13) (hi : -9223372036854775808 ≤ p.id ∧ p.id ≤ 9223372036854775807) (hn : -9223372036854775808 ≤ p.lsn ∧ p.lsn ≤ 9223372036854775807) : Good p :=
  ⟨hl, by simp [Lit.wf, IntKind.min, IntKind.max, IntKind.bits, IntKind.signed]; omega, by simp [Lit.wf, IntKind.min, IntKind.max, IntKind.bits, IntKind.signed]; omega, fun c hc => by have := hd c hc; unfold maxLen; omega⟩
theorem Drawn.good {p : Pg} {id : Int} (h : Drawn p id) (h0 : 0 ≤ id) (h1 : id < 64) : Good p :=
  good_of h.len (fun c hc => by have := h.data c hc; omega) ⟨by rw [h.id]; omega, by rw [h.id]; omega⟩ ⟨by have := h.lsn0; omega, by have := h.lsn1; omega⟩
theorem draw_odd (C : Nat) (p : Pg) (id : Int) (w : World) (h : CodesOk w C) (hp : Drawn p id) (h0 : 0 ≤ id) (h1 : id < 64) :
    Calls Try.prog 21 #[.pointer (some ⟨C, 0, none⟩), .agg (pgCells p).toArray] w fun e w' => ∃ r : Pg, e = .returned (.agg (pgCells r).toArray) ∧ Good r ∧ (∀ c ∈ r.cells, c.data.size ≤ 13) ∧ Besides C w w' ∧ CodesOk w' C :=
  (odd_any C p w h hp.len (fun c hc => by have := hp.data c hc; omega) ⟨by rw [hp.id]; omega, by rw [hp.id]; omega⟩ ⟨by have := hp.lsn0; omega, by have := hp.lsn1; omega⟩).mono (by
    rintro e w' ⟨r, rfl, a1, a2, a3, a4, a5, a6⟩
    exact ⟨r, rfl, good_of a1 a2 a3 a4, a2, a5, a6⟩)
end Go.Proofs.Ytbadfcnkpeohfaa
