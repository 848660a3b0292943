/- the choices of the drawing package: what Next gives lies in its range, and nothing but the place in the codes is changed -/
import Derived.Test.YtbadfcnkpeohfaaRows
import Derived.WalkKit
import Derived.WalkSpells
import Derived.WalkLawsBesides
import Derived.Lib.Hide
import Derived.Below
import Derived.RegionTactic
import Derived.ChangeAlike
import Derived.Deep.QuietTactic
import Derived.BigQuiet
namespace Go.Proofs.Ytbadfcnkpeohfaa
open Go.RowKit

/-- nothing that was there is changed, but for block C -/
structure Besides (C : Nat) (w w' : World) : Prop where
  os : w'.os = w.os
  tape : w'.tape = w.tape
  output : w'.output = w.output
  size : w.heap.size ≤ w'.heap.size
  block : ∀ k, k < w.heap.size → k ≠ C → w'.heap[k]? = w.heap[k]?
  head : C < w.heap.size → w'.cell? ⟨C, 0, none⟩ = w.cell? ⟨C, 0, none⟩
theorem Besides.refl (C : Nat) (w : World) : Besides C w w := ⟨rfl, rfl, rfl, Nat.le_refl _, fun _ _ _ => rfl, fun _ => rfl⟩
theorem Besides.trans {C : Nat} {a b c : World} (h : Besides C a b) (k : Besides C b c) : Besides C a c :=
  ⟨k.os.trans h.os, k.tape.trans h.tape, k.output.trans h.output, Nat.le_trans h.size k.size, fun i hi hC => (k.block i (Nat.lt_of_lt_of_le hi h.size) hC).trans (h.block i hi hC), fun hC => (k.head (Nat.lt_of_lt_of_le hC h.size)).trans (h.head hC)⟩
theorem Besides.of_below {C : Nat} {w w' : World} (h : Below w.heap.size w w') : Besides C w w' := ⟨h.os, h.tape, h.output, h.size, fun k hk _ => h.block k hk, fun hC => World.cell?_of_block (a := ⟨C, 0, none⟩) (h.block C hC)⟩
theorem Besides.below {C B : Nat} {w w' : World} (h : Besides C w w') (hC : B ≤ C) (hB : B ≤ w.heap.size) : Below B w w' := ⟨h.os, h.tape, h.output, h.size, fun k hk => h.block k (by omega) (by omega)⟩
theorem Besides.cell {C : Nat} {w w' : World} (h : Besides C w w') {p : Addr} (hp : p.block < w.heap.size) (hC : p.block ≠ C) : w'.cell? p = w.cell? p := World.cell?_of_block (h.block p.block hp hC)
theorem Besides.frozen {C : Nat} {w w' : World} (h : Besides C w w') {p : Addr} (hp : p.block < w.heap.size) (hC : p.block ≠ C) : w'.frozen? p = w.frozen? p := World.frozen?_of_block (h.block p.block hp hC)
theorem Besides.drewN {C : Nat} {a w : World} (h : Besides C a w) (n : Nat) : Besides C a (w.drewN n) := ⟨h.os, h.tape, h.output, h.size, h.block, h.head⟩
theorem Besides.drew {C : Nat} {a w : World} (h : Besides C a w) : Besides C a w.drew := ⟨h.os, h.tape, h.output, h.size, h.block, h.head⟩
theorem Besides.alloc {C : Nat} {a w : World} (h : Besides C a w) (o : Obj) : Besides C a (w.alloc o) :=
  h.trans ⟨rfl, rfl, rfl, by simp, fun k hk _ => Below.heap_alloc _ _ _ hk, fun hC => World.cell?_alloc_lt _ _ _ hC⟩
theorem Besides.set {C : Nat} {a w : World} (h : Besides C a w) (j : Nat) (u : Value) (hj : j ≠ 0) : Besides C a (w.setCell ⟨C, j, none⟩ u) :=
  h.trans ⟨rfl, rfl, rfl, by simp [World.setCell], fun k _ hC => Below.heap_setCell _ _ _ _ hC, fun _ => World.cell?_setCell_other _ _ _ _ (fun e => hj (by injection e))⟩
/-- a value of codes lies at block C -/
def CodesAt (w : World) (C : Nat) (a : Option Addr) (len cap : Nat) (i : Int) : Prop :=
  C < w.heap.size ∧ w.cell? ⟨C, 0, none⟩ = some (.slice a len cap) ∧ w.cell? ⟨C, 1, none⟩ = some (.int .i64 i) ∧ w.frozen? ⟨C, 1, none⟩ = false ∧ 0 ≤ i ∧ i ≤ 9223372036854775806 ∧ len ≤ 4611686018427387904
    ∧ (0 < len → ∃ b off, a = some ⟨b, off, none⟩ ∧ b < C ∧ ∀ j, j < len → ∃ z : Int, w.cell? ⟨b, off + j, none⟩ = some (.int .u8 z) ∧ 0 ≤ z ∧ z ≤ 255)
def CodesOk (w : World) (C : Nat) : Prop := ∃ a len cap i, CodesAt w C a len cap i
/-- codes stay codes while their block and older ones stay -/
theorem CodesAt.keep {w w' : World} {C len cap : Nat} {a : Option Addr} {i : Int} (h : CodesAt w C a len cap i) (hs : w.heap.size ≤ w'.heap.size) (hb : ∀ k, k ≤ C → w'.heap[k]? = w.heap[k]?) : CodesAt w' C a len cap i := by
  obtain ⟨h0, h1, h2, h3, h4, h5, h6, h7⟩ := h
  have cell : ∀ (k j : Nat), k ≤ C → w'.cell? ⟨k, j, none⟩ = w.cell? ⟨k, j, none⟩ := fun k j hk => World.cell?_of_block (a := ⟨k, j, none⟩) (hb k hk)
  refine ⟨by omega, by rw [cell C 0 (Nat.le_refl _), h1], by rw [cell C 1 (Nat.le_refl _), h2], by rw [World.frozen?_of_block (a := ⟨C, 1, none⟩) (hb C (Nat.le_refl _)), h3], h4, h5, h6, fun hl => ?_⟩
  obtain ⟨b, off, ha, hbC, hz⟩ := h7 hl
  exact ⟨b, off, ha, hbC, fun j hj => by rw [cell b (off + j) (by omega)]; exact hz j hj⟩
theorem CodesOk.below {w w' : World} {C B : Nat} (h : CodesOk w C) (hb : Below B w w') (hB : C < B) : CodesOk w' C := by
  obtain ⟨a, len, cap, i, h⟩ := h
  exact ⟨a, len, cap, i, h.keep hb.size (fun k hk => hb.block k (by omega))⟩
theorem CodesOk.drewN {w : World} {C : Nat} (h : CodesOk w C) (n : Nat) : CodesOk (w.drewN n) C := by
  obtain ⟨a, len, cap, i, h⟩ := h
  exact ⟨a, len, cap, i, h.keep (Nat.le_refl _) (fun _ _ => rfl)⟩
theorem CodesOk.lt {w : World} {C : Nat} (h : CodesOk w C) : C < w.heap.size := by
  obtain ⟨a, len, cap, i, h⟩ := h
  exact h.1
theorem CodesOk.drew {w : World} {C : Nat} (h : CodesOk w C) : CodesOk w.drew C := by
  obtain ⟨a, len, cap, i, h⟩ := h
  exact ⟨a, len, cap, i, h.keep (Nat.le_refl _) (fun _ _ => rfl)⟩
/-- the place goes on -/
theorem CodesAt.next {w : World} {C len cap : Nat} {a : Option Addr} {i : Int} (h : CodesAt w C a len cap i) (hi : i < len) : CodesOk (w.setCell ⟨C, 1, none⟩ (.int .i64 (i + 1))) C := by
  obtain ⟨h0, h1, h2, h3, h4, h5, h6, h7⟩ := h
  refine ⟨a, len, cap, i + 1, by simpa using h0, ?_, World.cell?_setCell_same w _ _ h2, by rw [World.frozen?_setCell]; exact h3, by omega, by omega, h6, fun hl => ?_⟩
  · rw [World.cell?_setCell_other w _ _ _ (by intro h; cases h)]; exact h1
  · obtain ⟨b, off, ha, hbC, hz⟩ := h7 hl
    refine ⟨b, off, ha, hbC, fun j hj => ?_⟩
    rw [World.cell?_setCell_other w _ _ _ (by intro h; injection h with h1 _ _; omega)]
    exact hz j hj
/-- what Next leaves -/
def NextPost (C : Nat) (n : Int) (w : World) (e : Ending) (w' : World) : Prop :=
  ∃ x : Int, e = .returned (.int .i64 x) ∧ 0 ≤ x ∧ (x < n ∨ x = 0) ∧ Besides C w w' ∧ CodesOk w' C
set_option maxHeartbeats 400000 in
theorem next_end (C : Nat) (a : Option Addr) (len cap : Nat) (i n : Int) (w : World) (h : CodesAt w C a len cap i) (hz : (len : Int) ≤ i ∨ n < 1) :
    Calls Try.prog 10 #[.pointer (some ⟨C, 0, none⟩), .int .i64 n] w (NextPost C n w) := by
  have HK : Hid (CodesOk w C) := ⟨a, len, cap, i, h⟩
  have h1 := h.2.1
  have h2 := h.2.2.1
  clear h
  by_cases hl : (len : Int) ≤ i
  · have d1 : decide ((len : Int) ≤ i) = true := by simpa using hl
    clear hz
    go_enter Try.func10, Try.ntmps10
    go_wp2
    go_quiet (fail)
    go_wp2
    go_ret
    exact ⟨0, rfl, Int.le_refl _, Or.inr rfl, (Besides.refl _ _).drewN _, HK.out.drewN _⟩
  · have d1 : decide ((len : Int) ≤ i) = false := by simpa using hl
    have hn : n < 1 := by omega
    have d2 : decide (n < 1) = true := by simpa using hn
    clear hz
    go_enter Try.func10, Try.ntmps10
    go_wp2
    go_quiet (fail)
    go_wp2
    go_ret
    exact ⟨0, rfl, Int.le_refl _, Or.inr rfl, (Besides.refl _ _).drewN _, HK.out.drewN _⟩
set_option maxHeartbeats 400000 in
theorem next_small (C : Nat) (n : Int) (w : World) (h : CodesOk w C) (hn : n ≤ 256) :
    Calls Try.prog 10 #[.pointer (some ⟨C, 0, none⟩), .int .i64 n] w (NextPost C n w) := by
  obtain ⟨a, len, cap, i, h⟩ := h
  by_cases hz : (len : Int) ≤ i ∨ n < 1
  · exact next_end C a len cap i n w h hz
  have hi : i < len := by omega
  have h1n : 1 ≤ n := by omega
  have HK : Hid (∀ q : Nat, CodesOk ((w.drewN q).setCell ⟨C, 1, none⟩ (.int .i64 (i + 1))) C) := fun q => (h.keep (w' := w.drewN q) (Nat.le_refl _) (fun _ _ => rfl)).next hi
  obtain ⟨h0, h1, h2, h3, h4, h5, h6, h7⟩ := h
  obtain ⟨b, off, rfl, hbC, hcell⟩ := h7 (by omega)
  obtain ⟨k, rfl⟩ := Int.eq_ofNat_of_zero_le h4
  obtain ⟨z, hzc, z0, z1⟩ := hcell k (by omega)
  clear hcell h7 hz
  have d1 : decide (len ≤ k) = false := by simp; omega
  have d2 : decide (n < 1) = false := by simp; omega
  have hk : (k : Int) < (len : Int) := by omega
  have hk0 : (0 : Int) ≤ (k : Int) := by omega
  have hg : ¬ 256 < n := by omega
  have dz := Int.emod_nonneg z (show n ≠ 0 by omega)
  have dz2 := Int.emod_lt_of_pos z (show 0 < n by omega)
  go_enter Try.func10, Try.ntmps10
  go_wp2
  go_quiet (fail)
  go_wp2
  go_quiet (fail)
  go_wp2
  go_ret
  exact ⟨z % n, rfl, dz, Or.inl dz2, ((Besides.refl _ _).drewN _).set _ _ (by decide), HK.out _⟩
set_option maxHeartbeats 400000 in
theorem next_any (C : Nat) (n : Int) (w : World) (h : CodesOk w C) (hmax : n ≤ 4611686018427387904) :
    Calls Try.prog 10 #[.pointer (some ⟨C, 0, none⟩), .int .i64 n] w (NextPost C n w) := by
  by_cases hn : n ≤ 256
  · exact next_small C n w h hn
  obtain ⟨a, len, cap, i, h⟩ := h
  by_cases hz : (len : Int) ≤ i
  · exact next_end C a len cap i n w h (Or.inl hz)
  have hi : i < len := by omega
  have HK : Hid (∀ q : Nat, CodesOk ((w.drewN q).setCell ⟨C, 1, none⟩ (.int .i64 (i + 1))) C) := fun q => (h.keep (w' := w.drewN q) (Nat.le_refl _) (fun _ _ => rfl)).next hi
  obtain ⟨h0, h1, h2, h3, h4, h5, h6, h7⟩ := h
  obtain ⟨b, off, rfl, hbC, hcell⟩ := h7 (by omega)
  obtain ⟨k, rfl⟩ := Int.eq_ofNat_of_zero_le h4
  obtain ⟨z, hzc, z0, z1⟩ := hcell k (by omega)
  clear hcell h7 hz
  have d1 : decide (len ≤ k) = false := by simp; omega
  have d2 : decide (n < 1) = false := by simp; omega
  have hk : (k : Int) < (len : Int) := by omega
  have hk0 : (0 : Int) ≤ (k : Int) := by omega
  have hg : 256 < n := by omega
  clear hn
  go_enter Try.func10, Try.ntmps10
  go_wp2_with fail
  go_quiet (fail)
  go_wp2_with fail
  go_quiet (fail)
  go_wp2_with fail
  refine (next_small C 256 _ (HK.out _) (by omega)).mono ?_
  rintro e w2 ⟨x, rfl, x0, x1, hb, hc⟩
  have x2 : x ≤ 255 := by omega
  clear x1
  have hn0 : 0 < n := by omega
  have dz := Int.emod_nonneg (256 * z + x) (show n ≠ 0 by omega)
  have dz2 := Int.emod_lt_of_pos (256 * z + x) (show 0 < n by omega)
  go_wp2_with fail
  go_ret
  exact ⟨_, rfl, dz, Or.inl dz2, (((Besides.refl _ _).drewN _).set _ _ (by decide)).trans hb, hc⟩
end Go.Proofs.Ytbadfcnkpeohfaa
