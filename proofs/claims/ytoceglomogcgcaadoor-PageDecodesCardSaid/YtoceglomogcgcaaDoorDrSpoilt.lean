/- the choices of the drawing package: Spoilt -/
import Derived.Test.YtoceglomogcgcaaDoorDrNext
import Derived.Test.YtoceglomogcgcaaDoorNum
import Derived.Deep.RegionWith
namespace Go.Proofs.YtoceglomogcgcaaDoor
open Go.RowKit

/-- what Spoilt leaves: some text, at most one byte longer -/
def SpoiltPost (C : Nat) (s : ByteArray) (w : World) (e : Ending) (w' : World) : Prop :=
  ∃ r : ByteArray, e = .returned (.string r) ∧ r.size ≤ s.size + 1 ∧ Besides C w w' ∧ CodesOk w' C
set_option maxHeartbeats 1000000 in
theorem spoilt_any (C : Nat) (s : ByteArray) (w : World) (h : CodesOk w C) (hs : s.size ≤ 4611686018427387904) :
    Calls Tryd.prog 23 #[.pointer (some ⟨C, 0, none⟩), .string s] w (SpoiltPost C s w) := by
  have HK := Lib.hid h
  clear h
  by_cases h0 : s.size = 0
  · have hb0 : ((s.size : Int) == 0) = true := by rw [h0]; rfl
    have H0 := Lib.hid h0
    clear h0
    go_enter Tryd.func23, Tryd.ntmps23
    go_wp2_with fail
    refine (next_any C 256 _ HK.out (by omega)).mono ?_
    rintro e w2 ⟨x, rfl, x0, x1, hb, hc⟩
    have x2 : x ≤ 255 := by omega
    have hcv := conv_at (w2.alloc (.cells #[.int .u8 x] 5)) w2.heap.size x x0 x2 (by rw [World.cell?_alloc_new]; rfl)
    have HB := Lib.hid hb
    have HC := Lib.hid hc
    clear x1 hb hc
    go_wp2
    go_ret
    exact ⟨_, rfl, by rw [size_one]; omega, HB.out.alloc _, HC.out.below ((Below.refl _ _).alloc (Nat.le_refl _) _) HC.out.lt⟩
  have hb0 : ((s.size : Int) == 0) = false := by rw [beq_eq_false_iff_ne]; omega
  have hpos : 1 ≤ s.size := by omega
  clear h0
  go_enter Tryd.func23, Tryd.ntmps23
  go_wp2_with fail
  refine (next_any C s.size _ HK.out (by omega)).mono ?_
  rintro e w2 ⟨k, rfl, k0, k1, hb2, hc2⟩
  obtain ⟨k, rfl⟩ := Int.eq_ofNat_of_zero_le k0
  have hk : k < s.size := by omega
  clear k1
  have HB2 := Lib.hid hb2
  have HC2 := Lib.hid hc2
  clear hb2 hc2
  go_wp2_with fail
  refine (next_any C 4 _ HC2.out (by omega)).mono ?_
  rintro e w3 ⟨m, rfl, m0, m1, hb3, hc3⟩
  have HB3 := Lib.hid (HB2.out.trans hb3)
  have HC3 := Lib.hid hc3
  clear m1 hb3 hc3
  have hka : (0 : Int) ≤ (k : Int) := by omega
  have hkb : (k : Int) ≤ (s.size : Int) := by omega
  have hkc : (k : Int) < (s.size : Int) := by omega
  have hkd : (0 : Int) ≤ (k : Int) + 1 := by omega
  have hke : (k : Int) + 1 ≤ (s.size : Int) := by omega
  have hks : ((k : Int) + 1).toNat = k + 1 := by omega
  have hkw : IntKind.i64.wrap ((k : Int) + 1) = (k : Int) + 1 := IntWalk.i64_in _ (by omega)
  have z1 : (s.extract 0 k).size ≤ k := by rw [ByteArray.size_extract]; omega
  have z2 : (s.extract (k + 1) s.size).size ≤ s.size - (k + 1) := by rw [ByteArray.size_extract]; omega
  by_cases hm0 : m = 0
  · have hm0' : (m == 0) = true := by rw [hm0]; rfl
    have ha : ∀ W : World, Sem.run Tryd.prog (Op.stringOp .add (s.extract 0 k) (s.extract (k + 1) s.size)) W = .ok (.string (s.extract 0 k ++ s.extract (k + 1) s.size)) W := fun W => run_string_add_sum W _ _ (by omega)
    clear hm0
    go_wp2_with fail
    go_quiet (fail)
    go_wp2
    go_ret
    exact ⟨_, rfl, by rw [ByteArray.size_append]; omega, HB3.out.drewN _, HC3.out.drewN _⟩
  have hm0' : (m == 0) = false := by rw [beq_eq_false_iff_ne]; exact hm0
  clear hm0
  by_cases hm1 : m = 1
  · have hm1' : (m == 1) = true := by rw [hm1]; rfl
    clear hm1
    go_wp2_with fail
    refine (next_any C 256 _ HC3.out (by omega)).mono ?_
    rintro e w4 ⟨x, rfl, x0, x1, hb, hc⟩
    have x2 : x ≤ 255 := by omega
    have hcv := conv_at (w4.alloc (.cells #[.int .u8 x] 5)) w4.heap.size x x0 x2 (by rw [World.cell?_alloc_new]; rfl)
    have ha : ∀ W : World, Sem.run Tryd.prog (Op.stringOp .add s ⟨#[UInt8.ofNat x.toNat]⟩) W = .ok (.string (s ++ ⟨#[UInt8.ofNat x.toNat]⟩)) W := fun W => run_string_add_sum W _ _ (by rw [size_one]; omega)
    have HB := Lib.hid (HB3.out.trans hb)
    have HC := Lib.hid hc
    clear x1 hb hc
    go_wp2
    go_ret
    exact ⟨_, rfl, by rw [ByteArray.size_append, size_one]; omega, HB.out.alloc _, HC.out.below ((Below.refl _ _).alloc (Nat.le_refl _) _) HC.out.lt⟩
  have hm1' : (m == 1) = false := by rw [beq_eq_false_iff_ne]; exact hm1
  clear hm1
  have ha1 : ∀ (u : UInt8) (W : World), Sem.run Tryd.prog (Op.stringOp .add (s.extract 0 k) ⟨#[u]⟩) W = .ok (.string (s.extract 0 k ++ ⟨#[u]⟩)) W := fun u W => run_string_add_sum W _ _ (by rw [size_one]; omega)
  have ha2 : ∀ (u : UInt8) (W : World), Sem.run Tryd.prog (Op.stringOp .add (s.extract 0 k ++ ⟨#[u]⟩) (s.extract (k + 1) s.size)) W = .ok (.string (s.extract 0 k ++ ⟨#[u]⟩ ++ s.extract (k + 1) s.size)) W := fun u W => run_string_add_sum W _ _ (by rw [ByteArray.size_append, size_one]; omega)
  go_wp2_with fail
  go_region_with (go_at_call 13; go_must (refine (next_any C 255 _ HC3.out.drew (by omega)).mono ?_); rintro e w4 ⟨x, rfl, x0, x1, hb, hc⟩; have x2 : x ≤ 254 := (by omega); have HB := Lib.hid (HB3.out.drew.trans hb); have HC := Lib.hid hc; clear x1 hb hc; have hw1 : IntKind.i64.wrap (1 + x) = 1 + x := IntWalk.i64_in _ (by omega); obtain ⟨y, u, hy, hcv⟩ := conv_ex w4 (s[k].toNat : Int) (IntKind.u8.wrap (1 + x)))
  all_goals go_wp2
  all_goals go_ret
  all_goals exact ⟨_, rfl, by rw [ByteArray.size_append, ByteArray.size_append, size_one]; omega, HB.out.alloc _, HC.out.below ((Below.refl _ _).alloc (Nat.le_refl _) _) HC.out.lt⟩
end Go.Proofs.YtoceglomogcgcaaDoor
