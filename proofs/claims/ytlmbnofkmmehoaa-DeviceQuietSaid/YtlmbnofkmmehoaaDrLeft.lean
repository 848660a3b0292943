/- the choices of the drawing package: how many are left -/
import Derived.Test.YtlmbnofkmmehoaaOm2
namespace Go.Proofs.Ytlmbnofkmmehoaa
open Go.RowKit
set_option maxRecDepth 20000

/-- how many choices are left at block C -/
def leftIn (w : World) (C : Nat) : Nat := match w.cell? ⟨C, 0, none⟩, w.cell? ⟨C, 1, none⟩ with
  | some (.slice _ len _), some (.int _ i) => ((len : Int) - i).toNat
  | _, _ => 0
theorem CodesAt.left {w : World} {C len cap : Nat} {a : Option Addr} {i : Int} (h : CodesAt w C a len cap i) : leftIn w C = ((len : Int) - i).toNat := by
  unfold leftIn
  rw [h.2.1, h.2.2.1]
theorem leftIn_of {w w' : World} {C : Nat} (h : w'.heap[C]? = w.heap[C]?) : leftIn w' C = leftIn w C := by
  unfold leftIn
  rw [World.cell?_of_block (a := ⟨C, 0, none⟩) h, World.cell?_of_block (a := ⟨C, 1, none⟩) h]
theorem leftIn_below {w w' : World} {C B : Nat} (hb : Below B w w') (hC : C < B) : leftIn w' C = leftIn w C := leftIn_of (hb.block C hC)
theorem leftIn_drewN (w : World) (q C : Nat) : leftIn (w.drewN q) C = leftIn w C := rfl
theorem leftIn_next {w : World} {C len cap : Nat} {a : Option Addr} {i : Int} (h : CodesAt w C a len cap i) : leftIn (w.setCell ⟨C, 1, none⟩ (.int .i64 (i + 1))) C ≤ leftIn w C - 1 := by
  rw [h.left]
  unfold leftIn
  rw [World.cell?_setCell_other w _ _ _ (by intro h; cases h), h.2.1, World.cell?_setCell_same w _ _ h.2.2.1]
  show ((len : Int) - (i + 1)).toNat ≤ _
  omega
def NextL (C : Nat) (n : Int) (w : World) (e : Ending) (w' : World) : Prop :=
  ∃ x : Int, e = .returned (.int .i64 x) ∧ 0 ≤ x ∧ (x < n ∨ x = 0) ∧ Besides C w w' ∧ CodesOk w' C ∧ leftIn w' C ≤ leftIn w C - 1
set_option maxHeartbeats 400000 in
theorem left_end (C : Nat) (a : Option Addr) (len cap : Nat) (i n : Int) (w : World) (h : CodesAt w C a len cap i) (hl : (len : Int) ≤ i) :
    Calls Try.prog 17 #[.pointer (some ⟨C, 0, none⟩), .int .i64 n] w (NextL C n w) := by
  have HK : Hid (CodesOk w C) := ⟨a, len, cap, i, h⟩
  have HZ : Hid (leftIn w C = 0) := by show _ = _; rw [h.left]; omega
  have h1 := h.2.1
  have h2 := h.2.2.1
  clear h
  have d1 : decide ((len : Int) ≤ i) = true := by simpa using hl
  go_enter Try.func17, Try.ntmps17
  go_wp2
  go_quiet (fail)
  go_wp2
  go_ret
  exact ⟨0, rfl, Int.le_refl _, Or.inr rfl, (Besides.refl _ _).drewN _, HK.out.drewN _, by rw [leftIn_drewN, HZ.out]; exact Nat.le_refl _⟩
set_option maxHeartbeats 400000 in
theorem left_small (C : Nat) (n : Int) (w : World) (h : CodesOk w C) (h1n : 1 ≤ n) (hn : n ≤ 256) :
    Calls Try.prog 17 #[.pointer (some ⟨C, 0, none⟩), .int .i64 n] w (NextL C n w) := by
  obtain ⟨a, len, cap, i, h⟩ := h
  by_cases hz : (len : Int) ≤ i
  · exact left_end C a len cap i n w h hz
  have hi : i < len := by omega
  have HK : Hid (∀ q : Nat, CodesOk ((w.drewN q).setCell ⟨C, 1, none⟩ (.int .i64 (i + 1))) C) := fun q => (h.keep (w' := w.drewN q) (Nat.le_refl _) (fun _ _ => rfl)).next hi
  have HLf : Hid (∀ q : Nat, leftIn ((w.drewN q).setCell ⟨C, 1, none⟩ (.int .i64 (i + 1))) C ≤ leftIn w C - 1) := fun q => leftIn_next (w := w.drewN q) (h.keep (w' := w.drewN q) (Nat.le_refl _) (fun _ _ => rfl))
  obtain ⟨h0, h1, h2, h3, h4, h5, h6, h7⟩ := h
  obtain ⟨b, off, rfl, hbC, hcell⟩ := h7 (by omega)
  obtain ⟨k, rfl⟩ := Int.eq_ofNat_of_zero_le h4
  obtain ⟨z, hzc, z0, z1⟩ := hcell k (by omega)
  clear hcell h7 hz
  have d1 : decide (len ≤ k) = false := by simp; omega
  have d2 : decide (n < 1) = false := by simp; omega
  have hk : (k : Int) < (len : Int) := by omega
  have hk0 : (0 : Int) ≤ (k : Int) := by omega
  have hg : ¬ 256 < n := by omega
  have dz := Int.emod_nonneg z (show n ≠ 0 by omega)
  have dz2 := Int.emod_lt_of_pos z (show 0 < n by omega)
  go_enter Try.func17, Try.ntmps17
  go_wp2
  go_quiet (fail)
  go_wp2
  go_quiet (fail)
  go_wp2
  go_ret
  exact ⟨z % n, rfl, dz, Or.inl dz2, ((Besides.refl _ _).drewN _).set _ _ (by decide), HK.out _, HLf.out _⟩
set_option maxHeartbeats 1000000 in
theorem bytes_left (C : Nat) (w : World) (h : CodesOk w C) :
    Calls Try.prog 18 #[.pointer (some ⟨C, 0, none⟩)] w fun e w' => ∃ s : ByteArray, e = .returned (.string s) ∧ s.size = 256 ∧ Besides C w w' ∧ CodesOk w' C ∧ leftIn w' C ≤ leftIn w C := by
  have HK := Lib.hid h
  clear h
  have hmk : Sem.run Try.prog (Instr.makeSlice 22 (.int .i64 256) (.int .i64 256)) w = .ok (.slice (some ⟨w.heap.size, 0, none⟩) 256 256) (w.alloc (.cells (madeCells #[.int .u8 0] 256) 5)) :=
    run_make_row' 22 5 (.int .u8 0) 1 Try.underlying22 info_byte rfl .i64 .i64 256 (by decide) (by decide) w
  rw [made_row] at hmk
  have hlen := len_rep 256
  generalize List.replicate 256 (0 : UInt8) = L0 at hmk hlen
  have HRa : Hid (RowIn (w.alloc (.cells (L0.map (fun b => Value.int .u8 (b.toNat : Int))).toArray 5 (0, 0))) w.heap.size L0) := heap_alloc_last w _
  generalize (L0.map (fun b => Value.int .u8 (b.toNat : Int))).toArray = cells0 at hmk HRa
  have HL0 := Lib.hid hlen
  clear hlen
  go_enter Try.func18, Try.ntmps18
  go_wp2_with fail
  refine (left_small C 256 _ (HK.out.below ((Below.refl _ _).alloc (Nat.le_refl _) _) HK.out.lt) (by omega) (by omega)).mono ?_
  rintro e w2 ⟨x, rfl, x0, x1, hb2, hc2, hl2⟩
  have x2 : x ≤ 255 := by omega
  have HBC : Hid (w.heap.size ≠ C) := by have := HK.out.lt; show _ ≠ _; omega
  have HCB : Hid (C < w.heap.size) := HK.out.lt
  have HR2 := Lib.hid (HRa.out.besides hb2 HBC.out)
  have HB2 := Lib.hid (((Besides.refl C w).alloc _).trans hb2)
  have HC2 := Lib.hid hc2
  have HL2 : Hid (leftIn w2 C ≤ leftIn w C) := by
    have e := leftIn_below ((Below.refl w.heap.size w).alloc (Nat.le_refl _) (.cells cells0 5)) HCB.out
    show _ ≤ _
    rw [e] at hl2
    omega
  clear hb2 hc2 x1 hmk hl2
  have hwx : IntKind.u8.wrap x = x := IntWalk.u8_in _ ⟨x0, x2⟩
  have HX : Hid (0 ≤ x ∧ x ≤ 255) := ⟨x0, x2⟩
  go_wp2_with fail
  go_loopw [5] (fun i wr => ∃ (k : Nat) (l : List UInt8), k ≤ 256 ∧ i = .int .i64 k ∧ l.length = 256 ∧ RowIn wr w.heap.size l ∧ Besides C w wr ∧ CodesOk wr C ∧ leftIn wr C ≤ leftIn w C) (fun i _ => 256 - (intOf i).toNat)
  case atStart => exact ⟨0, L0, by omega, rfl, HL0.out, HR2.out, HB2.out, HC2.out, HL2.out⟩
  case round =>
    obtain ⟨k, l, hk, rfl, hl, hr, hb, hc, hlf⟩ := hrel
    have HL := Lib.hid hl
    have HR := Lib.hid hr
    have HB := Lib.hid hb
    have HC := Lib.hid hc
    have HLf := Lib.hid hlf
    clear hl hr hb hc hlf
    by_cases hlt : k < 256
    · have hki : (k : Int) < 256 := by omega
      have c0 := HR.out.cell k (by rw [HL.out]; exact hlt)
      have f0 := HR.out.frozen k
      generalize l[k]'(by rw [HL.out]; exact hlt) = old at c0
      have hkw : IntKind.i64.wrap ((k : Int) + 1) = (k : Int) + 1 := IntWalk.i64_in _ (by omega)
      go_wp2_with fail
      go_roundw
      case rel => exact ⟨k + 1, l.set k (UInt8.ofNat x.toNat), by omega, rfl, by rw [List.length_set]; exact HL.out, HR.out.set k x HX.out.1 HX.out.2, HB.out.then_below ((Below.refl _ _).setCell (p := ⟨w.heap.size, k, none⟩) (Nat.le_refl _) _), HC.out.below ((Below.refl w.heap.size wr).setCell (p := ⟨w.heap.size, k, none⟩) (Nat.le_refl _) _) HCB.out, by rw [leftIn_below ((Below.refl w.heap.size wr).setCell (p := ⟨w.heap.size, k, none⟩) (Nat.le_refl _) _) HCB.out]; exact HLf.out⟩
      case measure => simp [intOf]; omega
    · have hki : ¬ (k : Int) < 256 := by omega
      go_wp2_with fail
      refine (left_small C 256 _ HC.out (by omega) (by omega)).mono ?_
      rintro e w3 ⟨j, rfl, j0, j1, hb3, hc3, hl3⟩
      obtain ⟨j, rfl⟩ := Int.eq_ofNat_of_zero_le j0
      have hj : j < 256 := by omega
      have HR3 := Lib.hid (HR.out.besides hb3 HBC.out)
      have HB3 := Lib.hid (HB.out.trans hb3)
      have HC3 := Lib.hid hc3
      have HL3 : Hid (leftIn w3 C ≤ leftIn w C) := by have := HLf.out; show _ ≤ _; omega
      clear hl3 hb3 hc3 j0 j1
      go_wp2_with fail
      refine (left_small C 256 _ HC3.out (by omega) (by omega)).mono ?_
      rintro e w4 ⟨y, rfl, y0, y1, hb4, hc4, hl4⟩
      have y2 : y ≤ 255 := by omega
      have HY : Hid (0 ≤ y ∧ y ≤ 255) := ⟨y0, y2⟩
      have hwy : IntKind.u8.wrap y = y := IntWalk.u8_in _ ⟨y0, y2⟩
      have hji : (j : Int) < 256 := by omega
      have HR4 := Lib.hid (HR3.out.besides hb4 HBC.out)
      have HB4 := Lib.hid (HB3.out.trans hb4)
      have HC4 := Lib.hid hc4
      have c0 := HR4.out.cell j (by rw [HL.out]; exact hj)
      have f0 := HR4.out.frozen j
      generalize l[j]'(by rw [HL.out]; exact hj) = old at c0
      have hcv := (HR4.out.set j y y0 y2).conv 256 256 (by rw [List.length_set]; exact HL.out.symm)
      have HL4 : Hid (leftIn w4 C ≤ leftIn w C) := by have := HL3.out; show _ ≤ _; omega
      clear hl4 hb4 hc4 y1
      go_wp2_with fail
      go_ret
      exact ⟨_, rfl, by show (List.toArray _).size = 256; rw [List.size_toArray, List.length_set]; exact HL.out, HB4.out.then_below ((Below.refl _ _).setCell (p := ⟨w.heap.size, j, none⟩) (Nat.le_refl _) _), HC4.out.below ((Below.refl w.heap.size w4).setCell (p := ⟨w.heap.size, j, none⟩) (Nat.le_refl _) _) HCB.out, by rw [leftIn_below ((Below.refl w.heap.size w4).setCell (p := ⟨w.heap.size, j, none⟩) (Nat.le_refl _) _) HCB.out]; exact HL4.out⟩
theorem left_any (C : Nat) (w : World) (h : CodesOk w C) :
    Calls Try.prog 33 #[.pointer (some ⟨C, 0, none⟩)] w fun e w' => ∃ (q : Nat) (v : Int), e = .returned (.int .i64 v) ∧ (0 < v → 0 < leftIn w C) ∧ w' = w.drewN q := by
  obtain ⟨a, len, cap, i, h⟩ := h
  have HL : Hid (leftIn w C = ((len : Int) - i).toNat) := h.left
  obtain ⟨h0, h1, h2, h3, h4, h5, h6, h7⟩ := h
  have hw : IntKind.i64.wrap ((len : Int) - i) = (len : Int) - i := IntWalk.i64_in _ (by omega)
  clear h0 h3 h4 h5 h6 h7
  go_enter Try.func33, Try.ntmps33
  go_wp2
  go_quiet (fail)
  go_wp2
  go_ret
  exact ⟨_, _, rfl, fun hv => by have := HL.out; omega, rfl⟩
set_option maxHeartbeats 400000 in
theorem new_left (m : Nat) (hm : m ≤ 1000) (a : Option Addr) (len cap : Nat) (zs : List Int) (w : World) (h : IsRow .u8 w a len cap zs) :
    Calls Try.prog 11 #[.slice a len cap, .int .i64 m] w fun e w' => e = .returned (.pointer (some ⟨w.heap.size, 0, none⟩)) ∧ Below w.heap.size w w' ∧ CodesOk w' w.heap.size ∧ CodesRow w' w.heap.size a len ∧ leftIn w' w.heap.size ≤ m := by
  by_cases hl : m < len
  · have HK := Lib.hid (codes_of_row h m cap (by omega) (by omega))
    rcases h with ⟨_, h, _, _⟩ | ⟨x, rfl, hlc, hcm, hz, _, _⟩
    · omega
    · have hcap : (m : Int) ≤ (cap : Int) := by omega
      have hi : (m : Int) < (len : Int) := by omega
      have hm0 : (0 : Int) ≤ (m : Int) := by omega
      have HL : Hid (m < len) := hl
      clear hz
      go_enter Try.func11, Try.ntmps11
      go_wp2
      go_ret
      exact ⟨rfl, (Below.refl _ _).alloc (Nat.le_refl _) _, HK.out, ⟨_, _, by rw [World.cell?_alloc_new]; rfl, fun _ => by have := HL.out; omega⟩, by unfold leftIn; rw [World.cell?_alloc_new, World.cell?_alloc_new]; show ((m : Int) - 0).toNat ≤ m; omega⟩
  · have hle : len ≤ 4611686018427387904 := by omega
    have HK := Lib.hid (codes_of_row h len cap (Nat.le_refl _) hle)
    have hi : ¬ ((m : Int) < (len : Int)) := by omega
    clear h
    go_enter Try.func11, Try.ntmps11
    go_wp2
    go_ret
    have hlm : len ≤ m := by omega
    refine ⟨rfl, (Below.refl _ _).alloc (Nat.le_refl _) _, HK.out, ⟨len, cap, ?_, fun h0 => h0⟩, by unfold leftIn; rw [World.cell?_alloc_new, World.cell?_alloc_new]; show ((len : Int) - 0).toNat ≤ m; omega⟩
    rw [World.cell?_alloc_new]
    rfl
theorem new_hpl (m : Nat) (hm : m ≤ 1000) {w0 w : World} {L : List Th} {x : Option Addr} {len cap : Nat} {zs : List Int} (h : Hp w0 L w) (hr : IsRow .u8 w0 x len cap zs) :
    Calls Try.prog 11 #[.slice x len cap, .int .i64 m] w fun e w' => e = .returned (.pointer (some ⟨w.heap.size, 0, none⟩)) ∧ Hp w0 (L ++ [.cd w.heap.size]) w' ∧ leftIn w' w.heap.size ≤ m :=
  (new_left m hm x len cap zs w (row_below hr h.old)).mono fun _ _ ⟨h1, h2, h3, ⟨l, c, h4, h5⟩, h6⟩ => ⟨h1, h.begin h2 h3 ⟨x, l, c, h4, fun hl => row_lo hr (h5 hl)⟩, h6⟩
end Go.Proofs.Ytlmbnofkmmehoaa
