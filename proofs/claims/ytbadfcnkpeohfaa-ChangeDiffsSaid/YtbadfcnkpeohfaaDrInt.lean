/- the choices of the drawing package: Int -/
import Derived.Test.YtbadfcnkpeohfaaDrNext
namespace Go.Proofs.Ytbadfcnkpeohfaa
open Go.RowKit

/-- what Int leaves: some number -/
def IntPost (C : Nat) (w : World) (e : Ending) (w' : World) : Prop :=
  ∃ x : Int, e = .returned (.int .i64 x) ∧ -9223372036854775808 ≤ x ∧ x ≤ 9223372036854775807 ∧ Besides C w w' ∧ CodesOk w' C
/-- the numbers about limits -/
def limL : List Int := [9223372036854775807, -9223372036854775808, 1099511627776, 1099511627777, 1073741824, 1073741825, 64, 63, 16, 15, 256, 255, 4294967296, 65536, 256, 255]
def limV : Array Value := (limL.map (Value.int .i64)).toArray
theorem limL_in : ∀ i : Fin 16, -9223372036854775808 ≤ limL.getD i.val 0 ∧ limL.getD i.val 0 ≤ 9223372036854775807 := by decide
theorem limV_get (k : Nat) (h : k < 16) : limV[k]? = some (.int .i64 (limL.getD k 0)) := by
  unfold limV
  rw [List.getElem?_toArray, List.getElem?_map, List.getD_eq_getElem?_getD, List.getElem?_eq_getElem (by simpa [limL] using h)]
  rfl

set_option maxHeartbeats 1000000 in
theorem int_any (C : Nat) (w : World) (h : CodesOk w C) :
    Calls Try.prog 29 #[.pointer (some ⟨C, 0, none⟩)] w (IntPost C w) := by
  have HK := Lib.hid h
  clear h
  go_enter Try.func29, Try.ntmps29
  go_wp2_with fail
  refine (next_any C 10 _ HK.out (by omega)).mono ?_
  rintro e w2 ⟨m, rfl, m0, m1, hb2, hc2⟩
  have HB2 := Lib.hid hb2
  have HC2 := Lib.hid hc2
  clear m1 hb2 hc2
  by_cases h0 : m = 0
  · have h0b : (m == 0) = true := by rw [h0]; rfl
    clear h0
    go_wp2_with fail
    refine (next_any C 3 _ HC2.out (by omega)).mono ?_
    rintro e w3 ⟨x, rfl, x0, x1, hb3, hc3⟩
    have HB3 := Lib.hid (HB2.out.trans hb3)
    have HC3 := Lib.hid hc3
    have x2 : x ≤ 2 := by omega
    clear x1 hb3 hc3
    go_wp2_with fail
    go_ret
    exact ⟨_, rfl, by omega, by omega, HB3.out, HC3.out⟩
  have h0b : (m == 0) = false := by rw [beq_eq_false_iff_ne]; exact h0
  clear h0
  by_cases h1 : m = 1
  · have h1b : (m == 1) = true := by rw [h1]; rfl
    clear h1
    go_wp2_with fail
    have hlt := HC2.out.lt
    refine (next_any C 16 _ (HC2.out.below ((Below.refl _ _).alloc (Nat.le_refl _) _) hlt) (by omega)).mono ?_
    rintro e w3 ⟨x, rfl, x0, x1, hb3, hc3⟩
    obtain ⟨k, rfl⟩ := Int.eq_ofNat_of_zero_le x0
    have hk : k < 16 := by omega
    clear x1 x0
    have hcell : w3.cell? ⟨w2.heap.size, k, none⟩ = some (.int .i64 (limL.getD k 0)) := by
      rw [hb3.cell (p := ⟨w2.heap.size, k, none⟩) (by simp) (by show w2.heap.size ≠ C; omega), World.cell?_alloc_new]
      exact limV_get k hk
    have hin := limL_in ⟨k, hk⟩
    have HIN := Lib.hid hin
    clear hin
    generalize limL.getD k 0 = y at *
    have HB3 := Lib.hid ((HB2.out.alloc _).trans hb3)
    have HC3 := Lib.hid hc3
    clear hb3 hc3 hlt
    generalize w2.heap.size = b2 at *
    go_wp2_with fail
    go_ret
    exact ⟨y, rfl, HIN.out.1, HIN.out.2, HB3.out, HC3.out⟩
  · have h1b : (m == 1) = false := by rw [beq_eq_false_iff_ne]; exact h1
    clear h1
    go_wp2_with fail
    refine (next_any C 20 _ HC2.out (by omega)).mono ?_
    rintro e w3 ⟨x, rfl, x0, x1, hb3, hc3⟩
    have HB3 := Lib.hid (HB2.out.trans hb3)
    have HC3 := Lib.hid hc3
    have x2 : x ≤ 19 := by omega
    clear x1 hb3 hc3
    go_wp2_with fail
    go_ret
    exact ⟨_, rfl, by omega, by omega, HB3.out, HC3.out⟩
end Go.Proofs.Ytbadfcnkpeohfaa
