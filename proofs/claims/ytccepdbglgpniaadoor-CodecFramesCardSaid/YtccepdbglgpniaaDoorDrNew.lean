/- the choices of the drawing package: New and Spoilt -/
import Derived.Test.YtccepdbglgpniaaDoorDrNext
import Derived.Test.YtccepdbglgpniaaDoorCdNum
import Derived.Test.YtccepdbglgpniaaDoorOpen4
import Derived.Deep.RegionWith
namespace Go.Proofs.YtccepdbglgpniaaDoor
open Go.RowKit

/-- a slice of integers that came in: nil, or a row of cells with the numbers zs -/
def IsRow (k : IntKind) (w : World) (a : Option Addr) (len cap : Nat) (zs : List Int) : Prop :=
  (a = none ∧ len = 0 ∧ cap = 0 ∧ zs = []) ∨
  ∃ x, a = some x ∧ len ≤ cap ∧ cap ≤ maxLen ∧ zs.length = cap ∧ (∀ i, i < zs.length → w.cell? (x.add i) = some (.int k (zs.getD i 0))) ∧ ∀ n ∈ zs, (Lit.int k n).wf = true

/-- the codes of a slice that came in, at a block behind it -/
theorem codes_of_row {w : World} {a : Option Addr} {len cap : Nat} {zs : List Int} (h : IsRow .u8 w a len cap zs) (l c : Nat) (hl : l ≤ len) (hl2 : l ≤ 4611686018427387904) :
    CodesOk (w.alloc (.cells #[.slice a l c, .int .i64 0] 50)) w.heap.size := by
  refine ⟨a, l, c, 0, by simp, by rw [World.cell?_alloc_new]; rfl, by rw [World.cell?_alloc_new]; rfl, by rw [World.frozen?_alloc_new], by omega, by omega, hl2, fun h0 => ?_⟩
  rcases h with ⟨_, h, _, _⟩ | ⟨x, rfl, hlc, _, hz, hcell, hwf⟩
  · omega
  · obtain ⟨b, off, spot⟩ := x
    have hc := hcell 0 (by omega)
    have hspot : spot = none := by simpa [Addr.add] using World.cell?_spot hc
    subst hspot
    have hb0 : w.cell? ⟨b, off, none⟩ = some (.int .u8 (zs.getD 0 0)) := by simpa [Addr.add] using hc
    have hb : b < w.heap.size := World.block_lt_of_cell? w _ hb0
    refine ⟨b, off, rfl, hb, fun j hj => ⟨zs.getD j 0, ?_, ?_⟩⟩
    · have e : (⟨b, off, none⟩ : Addr).add j = ⟨b, off + j, none⟩ := by
        simp only [Addr.add]; split
        · next h => rw [h]; rfl
        · rfl
      have := hcell j (by omega)
      rw [e] at this
      rw [World.cell?_alloc_lt _ _ _ hb]
      exact this
    · have hm : zs.getD j 0 ∈ zs := by
        rw [List.getD_eq_getElem?_getD, List.getElem?_eq_getElem (by omega), Option.getD_some]; exact List.getElem_mem _
      obtain ⟨u, hu⟩ := byte_of_wf (hwf _ hm)
      have := u.toNat_lt
      rw [hu]
      omega
set_option maxHeartbeats 400000 in
theorem new_any (a : Option Addr) (len cap : Nat) (zs : List Int) (w : World) (h : IsRow .u8 w a len cap zs) :
    Calls Tryd.prog 13 #[.slice a len cap, .int .i64 60] w fun e w' => e = .returned (.pointer (some ⟨w.heap.size, 0, none⟩)) ∧ Below w.heap.size w w' ∧ CodesOk w' w.heap.size := by
  by_cases hl : 60 < len
  · have HK := Lib.hid (codes_of_row h 60 cap (by omega) (by omega))
    rcases h with ⟨_, h, _, _⟩ | ⟨x, rfl, hlc, hcm, hz, _, _⟩
    · omega
    · have hcap : (60 : Int) ≤ (cap : Int) := by omega
      clear hz
      go_enter Tryd.func13, Tryd.ntmps13
      go_wp2
      go_ret
      exact ⟨rfl, (Below.refl _ _).alloc (Nat.le_refl _) _, HK.out⟩
  · have HK := Lib.hid (codes_of_row h len cap (Nat.le_refl _) (by omega))
    clear h
    go_enter Tryd.func13, Tryd.ntmps13
    go_wp2
    go_ret
    exact ⟨rfl, (Below.refl _ _).alloc (Nat.le_refl _) _, HK.out⟩

/-- what Spoilt leaves: some text, at most one byte longer -/
def SpoiltPost (C : Nat) (s : ByteArray) (w : World) (e : Ending) (w' : World) : Prop :=
  ∃ r : ByteArray, e = .returned (.string r) ∧ r.size ≤ s.size + 1 ∧ Besides C w w' ∧ CodesOk w' C

/-- a text of one byte, at any world -/
theorem conv_at (W : World) (A : Nat) (y : Int) (y0 : 0 ≤ y) (y1 : y ≤ 255) (h : W.cell? ⟨A, 0, none⟩ = some (.int .u8 y)) : Sem.run Tryd.prog (convert 31 9 (.slice (some ⟨A, 0, none⟩) 1 1)) W = .ok (.string ⟨#[UInt8.ofNat y.toNat]⟩) W := by
  refine run_convert_bytes_back (P := Tryd.prog) W 31 9 5 ⟨A, 0, none⟩ 1 [UInt8.ofNat y.toNat] Tryd.underlying31 Tryd.underlying5 Tryd.underlying9 (fun j hj => ?_)
  have : j = 0 := by simpa using hj
  subst this
  show W.cell? ⟨A, 0, none⟩ = _
  rw [h]
  show some (Value.int .u8 y) = some (Value.int .u8 (((UInt8.ofNat y.toNat).toNat : Nat) : Int))
  rw [UInt8.toNat_ofNat', show ((y.toNat % 2 ^ 8 : Nat) : Int) = y from by omega]
theorem xor_in (a b : Int) : 0 ≤ bits .xor .u8 a b ∧ bits .xor .u8 a b ≤ 255 := by
  show 0 ≤ IntKind.u8.wrap ((BitVec.ofInt 8 a ^^^ BitVec.ofInt 8 b).toNat : Int) ∧ IntKind.u8.wrap ((BitVec.ofInt 8 a ^^^ BitVec.ofInt 8 b).toNat : Int) ≤ 255
  rw [IntKind.wrap_u8']
  omega
theorem conv_ex (w : World) (a b : Int) : ∃ (y : Int) (u : UInt8), bits .xor .u8 a b = y ∧ Sem.run Tryd.prog (convert 31 9 (.slice (some ⟨w.heap.size, 0, none⟩) 1 1)) (w.alloc (.cells #[.int .u8 y] 5)) = .ok (.string ⟨#[u]⟩) (w.alloc (.cells #[.int .u8 y] 5)) :=
  ⟨_, _, rfl, conv_at _ _ _ (xor_in a b).1 (xor_in a b).2 (by rw [World.cell?_alloc_new]; rfl)⟩
theorem CodesOk.drew {w : World} {C : Nat} (h : CodesOk w C) : CodesOk w.drew C := by
  obtain ⟨a, len, cap, i, h⟩ := h
  exact ⟨a, len, cap, i, h.keep (Nat.le_refl _) (fun _ _ => rfl)⟩
theorem size_one (b : UInt8) : (⟨#[b]⟩ : ByteArray).size = 1 := rfl

set_option maxHeartbeats 1000000 in
theorem spoilt_any (C : Nat) (s : ByteArray) (w : World) (h : CodesOk w C) (hs : s.size ≤ 4611686018427387904) :
    Calls Tryd.prog 15 #[.pointer (some ⟨C, 0, none⟩), .string s] w (SpoiltPost C s w) := by
  have HK := Lib.hid h
  clear h
  by_cases h0 : s.size = 0
  · have hb0 : ((s.size : Int) == 0) = true := by rw [h0]; rfl
    have H0 := Lib.hid h0
    clear h0
    go_enter Tryd.func15, Tryd.ntmps15
    go_wp2_with fail
    refine (next_any C 256 _ HK.out (by omega)).mono ?_
    rintro e w2 ⟨x, rfl, x0, x1, hb, hc⟩
    have x2 : x ≤ 255 := by omega
    have hcv := conv_at (w2.alloc (.cells #[.int .u8 x] 5)) w2.heap.size x x0 x2 (by rw [World.cell?_alloc_new]; rfl)
    have HB := Lib.hid hb
    have HC := Lib.hid hc
    clear x1 hb hc
    go_wp2
    go_ret
    exact ⟨_, rfl, by rw [size_one]; omega, HB.out.alloc _, HC.out.below ((Below.refl _ _).alloc (Nat.le_refl _) _) HC.out.lt⟩
  have hb0 : ((s.size : Int) == 0) = false := by rw [beq_eq_false_iff_ne]; omega
  have hpos : 1 ≤ s.size := by omega
  clear h0
  go_enter Tryd.func15, Tryd.ntmps15
  go_wp2_with fail
  refine (next_any C s.size _ HK.out (by omega)).mono ?_
  rintro e w2 ⟨k, rfl, k0, k1, hb2, hc2⟩
  obtain ⟨k, rfl⟩ := Int.eq_ofNat_of_zero_le k0
  have hk : k < s.size := by omega
  clear k1
  have HB2 := Lib.hid hb2
  have HC2 := Lib.hid hc2
  clear hb2 hc2
  go_wp2_with fail
  refine (next_any C 4 _ HC2.out (by omega)).mono ?_
  rintro e w3 ⟨m, rfl, m0, m1, hb3, hc3⟩
  have HB3 := Lib.hid (HB2.out.trans hb3)
  have HC3 := Lib.hid hc3
  clear m1 hb3 hc3
  have hka : (0 : Int) ≤ (k : Int) := by omega
  have hkb : (k : Int) ≤ (s.size : Int) := by omega
  have hkc : (k : Int) < (s.size : Int) := by omega
  have hkd : (0 : Int) ≤ (k : Int) + 1 := by omega
  have hke : (k : Int) + 1 ≤ (s.size : Int) := by omega
  have hks : ((k : Int) + 1).toNat = k + 1 := by omega
  have hkw : IntKind.i64.wrap ((k : Int) + 1) = (k : Int) + 1 := IntWalk.i64_in _ (by omega)
  have z1 : (s.extract 0 k).size ≤ k := by rw [ByteArray.size_extract]; omega
  have z2 : (s.extract (k + 1) s.size).size ≤ s.size - (k + 1) := by rw [ByteArray.size_extract]; omega
  by_cases hm0 : m = 0
  · have hm0' : (m == 0) = true := by rw [hm0]; rfl
    have ha : ∀ W : World, Sem.run Tryd.prog (Op.stringOp .add (s.extract 0 k) (s.extract (k + 1) s.size)) W = .ok (.string (s.extract 0 k ++ s.extract (k + 1) s.size)) W := fun W => run_string_add_sum W _ _ (by omega)
    clear hm0
    go_wp2_with fail
    go_quiet (fail)
    go_wp2
    go_ret
    exact ⟨_, rfl, by rw [ByteArray.size_append]; omega, HB3.out.drewN _, HC3.out.drewN _⟩
  have hm0' : (m == 0) = false := by rw [beq_eq_false_iff_ne]; exact hm0
  clear hm0
  by_cases hm1 : m = 1
  · have hm1' : (m == 1) = true := by rw [hm1]; rfl
    clear hm1
    go_wp2_with fail
    refine (next_any C 256 _ HC3.out (by omega)).mono ?_
    rintro e w4 ⟨x, rfl, x0, x1, hb, hc⟩
    have x2 : x ≤ 255 := by omega
    have hcv := conv_at (w4.alloc (.cells #[.int .u8 x] 5)) w4.heap.size x x0 x2 (by rw [World.cell?_alloc_new]; rfl)
    have ha : ∀ W : World, Sem.run Tryd.prog (Op.stringOp .add s ⟨#[UInt8.ofNat x.toNat]⟩) W = .ok (.string (s ++ ⟨#[UInt8.ofNat x.toNat]⟩)) W := fun W => run_string_add_sum W _ _ (by rw [size_one]; omega)
    have HB := Lib.hid (HB3.out.trans hb)
    have HC := Lib.hid hc
    clear x1 hb hc
    go_wp2
    go_ret
    exact ⟨_, rfl, by rw [ByteArray.size_append, size_one]; omega, HB.out.alloc _, HC.out.below ((Below.refl _ _).alloc (Nat.le_refl _) _) HC.out.lt⟩
  have hm1' : (m == 1) = false := by rw [beq_eq_false_iff_ne]; exact hm1
  clear hm1
  have ha1 : ∀ (u : UInt8) (W : World), Sem.run Tryd.prog (Op.stringOp .add (s.extract 0 k) ⟨#[u]⟩) W = .ok (.string (s.extract 0 k ++ ⟨#[u]⟩)) W := fun u W => run_string_add_sum W _ _ (by rw [size_one]; omega)
  have ha2 : ∀ (u : UInt8) (W : World), Sem.run Tryd.prog (Op.stringOp .add (s.extract 0 k ++ ⟨#[u]⟩) (s.extract (k + 1) s.size)) W = .ok (.string (s.extract 0 k ++ ⟨#[u]⟩ ++ s.extract (k + 1) s.size)) W := fun u W => run_string_add_sum W _ _ (by rw [ByteArray.size_append, size_one]; omega)
  go_wp2_with fail
  go_region_with (go_at_call 16; go_must (refine (next_any C 255 _ HC3.out.drew (by omega)).mono ?_); rintro e w4 ⟨x, rfl, x0, x1, hb, hc⟩; have x2 : x ≤ 254 := (by omega); have HB := Lib.hid (HB3.out.drew.trans hb); have HC := Lib.hid hc; clear x1 hb hc; have hw1 : IntKind.i64.wrap (1 + x) = 1 + x := IntWalk.i64_in _ (by omega); obtain ⟨y, u, hy, hcv⟩ := conv_ex w4 (s[k].toNat : Int) (IntKind.u8.wrap (1 + x)))
  all_goals go_wp2
  all_goals go_ret
  all_goals exact ⟨_, rfl, by rw [ByteArray.size_append, ByteArray.size_append, size_one]; omega, HB.out.alloc _, HC.out.below ((Below.refl _ _).alloc (Nat.le_refl _) _) HC.out.lt⟩
end Go.Proofs.YtccepdbglgpniaaDoor
