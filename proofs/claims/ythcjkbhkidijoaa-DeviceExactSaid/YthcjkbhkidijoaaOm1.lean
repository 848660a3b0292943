/- texts of a claim, one after the other: the choices of the drawing package: what Next gives lies in its range, and nothing but the place in the codes is changed, numbers as bytes, texts, and small facts on conversions: no walk, the choices of the drawing package: New and Spoilt, small things about memory that all texts use, what all laws begin with: the choices, objects in memory, and what a walk keeps of them, what a walk keeps of memory: objects, slices of its own, choices; what was there is as it was, a slice that reads as these cells; what reads is appended to a slice of the walk's own, faults and devices as values, and what the functions of chapter 4 answer, the walk of the reference's check of a fault, the walk of the reference's 'has', the walk of the reference's check of a device, the walks of the reference's usable and Read, the library's search through faults, by whatever function that reads, the walk of the reference's Copy, rows of whole elements that are written in place, the library's DeleteFunc over faults, the program's 'reduced', the program's isPage and its check of the pages, the program's check of the unreadable pages, the program's check of a fault -/
import Derived.Test.YthcjkbhkidijoaaRows
import Derived.WalkKit
import Derived.WalkSpells
import Derived.WalkLawsBesides
import Derived.Lib.Hide
import Derived.Below
import Derived.RegionTactic
import Derived.ChangeAlike
import Derived.Deep.QuietTactic
import Derived.BigQuiet
import Derived.LoopN
import Derived.ProofKit
import Derived.OpenShut
import Derived.Deep.MidRow
import Derived.Deep.OwnRows
import Derived.Laws.CopyOwn
import Derived.KernelRfl
import Derived.BigRegion
import Derived.Deep.RegionWith
import Derived.Deep.RegionHeld3
import Derived.Deep.WholeRow
import Derived.Laws.ResultCell
import Derived.Maps.AppendAt
import Derived.Deep.DeepCutAuto
import Derived.Great.BuildSlice
import Derived.DeepKeys
import Derived.Lib.SliceRun
/- the choices of the drawing package: what Next gives lies in its range, and nothing but the place in the codes is changed -/
namespace Go.Proofs.Ythcjkbhkidijoaa
open Go.RowKit
set_option maxRecDepth 20000

/-- nothing that was there is changed, but for block C -/
structure Besides (C : Nat) (w w' : World) : Prop where
  os : w'.os = w.os
  tape : w'.tape = w.tape
  output : w'.output = w.output
  size : w.heap.size ≤ w'.heap.size
  block : ∀ k, k < w.heap.size → k ≠ C → w'.heap[k]? = w.heap[k]?
  head : C < w.heap.size → w'.cell? ⟨C, 0, none⟩ = w.cell? ⟨C, 0, none⟩
theorem Besides.refl (C : Nat) (w : World) : Besides C w w := ⟨rfl, rfl, rfl, Nat.le_refl _, fun _ _ _ => rfl, fun _ => rfl⟩
theorem Besides.trans {C : Nat} {a b c : World} (h : Besides C a b) (k : Besides C b c) : Besides C a c :=
  ⟨k.os.trans h.os, k.tape.trans h.tape, k.output.trans h.output, Nat.le_trans h.size k.size, fun i hi hC => (k.block i (Nat.lt_of_lt_of_le hi h.size) hC).trans (h.block i hi hC), fun hC => (k.head (Nat.lt_of_lt_of_le hC h.size)).trans (h.head hC)⟩
theorem Besides.of_below {C : Nat} {w w' : World} (h : Below w.heap.size w w') : Besides C w w' := ⟨h.os, h.tape, h.output, h.size, fun k hk _ => h.block k hk, fun hC => World.cell?_of_block (a := ⟨C, 0, none⟩) (h.block C hC)⟩
theorem Besides.below {C B : Nat} {w w' : World} (h : Besides C w w') (hC : B ≤ C) (hB : B ≤ w.heap.size) : Below B w w' := ⟨h.os, h.tape, h.output, h.size, fun k hk => h.block k (by omega) (by omega)⟩
theorem Besides.cell {C : Nat} {w w' : World} (h : Besides C w w') {p : Addr} (hp : p.block < w.heap.size) (hC : p.block ≠ C) : w'.cell? p = w.cell? p := World.cell?_of_block (h.block p.block hp hC)
theorem Besides.frozen {C : Nat} {w w' : World} (h : Besides C w w') {p : Addr} (hp : p.block < w.heap.size) (hC : p.block ≠ C) : w'.frozen? p = w.frozen? p := World.frozen?_of_block (h.block p.block hp hC)
theorem Besides.drewN {C : Nat} {a w : World} (h : Besides C a w) (n : Nat) : Besides C a (w.drewN n) := ⟨h.os, h.tape, h.output, h.size, h.block, h.head⟩
theorem Besides.drew {C : Nat} {a w : World} (h : Besides C a w) : Besides C a w.drew := ⟨h.os, h.tape, h.output, h.size, h.block, h.head⟩
theorem Besides.alloc {C : Nat} {a w : World} (h : Besides C a w) (o : Obj) : Besides C a (w.alloc o) :=
  h.trans ⟨rfl, rfl, rfl, by simp, fun k hk _ => Below.heap_alloc _ _ _ hk, fun hC => World.cell?_alloc_lt _ _ _ hC⟩
theorem Besides.set {C : Nat} {a w : World} (h : Besides C a w) (j : Nat) (u : Value) (hj : j ≠ 0) : Besides C a (w.setCell ⟨C, j, none⟩ u) :=
  h.trans ⟨rfl, rfl, rfl, by simp [World.setCell], fun k _ hC => Below.heap_setCell _ _ _ _ hC, fun _ => World.cell?_setCell_other _ _ _ _ (fun e => hj (by injection e))⟩
/-- a value of codes lies at block C -/
def CodesAt (w : World) (C : Nat) (a : Option Addr) (len cap : Nat) (i : Int) : Prop :=
  C < w.heap.size ∧ w.cell? ⟨C, 0, none⟩ = some (.slice a len cap) ∧ w.cell? ⟨C, 1, none⟩ = some (.int .i64 i) ∧ w.frozen? ⟨C, 1, none⟩ = false ∧ 0 ≤ i ∧ i ≤ 9223372036854775806 ∧ len ≤ 4611686018427387904
    ∧ (0 < len → ∃ b off, a = some ⟨b, off, none⟩ ∧ b < C ∧ ∀ j, j < len → ∃ z : Int, w.cell? ⟨b, off + j, none⟩ = some (.int .u8 z) ∧ 0 ≤ z ∧ z ≤ 255)
def CodesOk (w : World) (C : Nat) : Prop := ∃ a len cap i, CodesAt w C a len cap i
/-- codes stay codes while their block and older ones stay -/
theorem CodesAt.keep {w w' : World} {C len cap : Nat} {a : Option Addr} {i : Int} (h : CodesAt w C a len cap i) (hs : w.heap.size ≤ w'.heap.size) (hb : ∀ k, k ≤ C → w'.heap[k]? = w.heap[k]?) : CodesAt w' C a len cap i := by
  obtain ⟨h0, h1, h2, h3, h4, h5, h6, h7⟩ := h
  have cell : ∀ (k j : Nat), k ≤ C → w'.cell? ⟨k, j, none⟩ = w.cell? ⟨k, j, none⟩ := fun k j hk => World.cell?_of_block (a := ⟨k, j, none⟩) (hb k hk)
  refine ⟨by omega, by rw [cell C 0 (Nat.le_refl _), h1], by rw [cell C 1 (Nat.le_refl _), h2], by rw [World.frozen?_of_block (a := ⟨C, 1, none⟩) (hb C (Nat.le_refl _)), h3], h4, h5, h6, fun hl => ?_⟩
  obtain ⟨b, off, ha, hbC, hz⟩ := h7 hl
  exact ⟨b, off, ha, hbC, fun j hj => by rw [cell b (off + j) (by omega)]; exact hz j hj⟩
theorem CodesOk.below {w w' : World} {C B : Nat} (h : CodesOk w C) (hb : Below B w w') (hB : C < B) : CodesOk w' C := by
  obtain ⟨a, len, cap, i, h⟩ := h
  exact ⟨a, len, cap, i, h.keep hb.size (fun k hk => hb.block k (by omega))⟩
theorem CodesOk.drewN {w : World} {C : Nat} (h : CodesOk w C) (n : Nat) : CodesOk (w.drewN n) C := by
  obtain ⟨a, len, cap, i, h⟩ := h
  exact ⟨a, len, cap, i, h.keep (Nat.le_refl _) (fun _ _ => rfl)⟩
theorem CodesOk.lt {w : World} {C : Nat} (h : CodesOk w C) : C < w.heap.size := by
  obtain ⟨a, len, cap, i, h⟩ := h
  exact h.1
theorem CodesOk.drew {w : World} {C : Nat} (h : CodesOk w C) : CodesOk w.drew C := by
  obtain ⟨a, len, cap, i, h⟩ := h
  exact ⟨a, len, cap, i, h.keep (Nat.le_refl _) (fun _ _ => rfl)⟩
/-- the place goes on -/
theorem CodesAt.next {w : World} {C len cap : Nat} {a : Option Addr} {i : Int} (h : CodesAt w C a len cap i) (hi : i < len) : CodesOk (w.setCell ⟨C, 1, none⟩ (.int .i64 (i + 1))) C := by
  obtain ⟨h0, h1, h2, h3, h4, h5, h6, h7⟩ := h
  refine ⟨a, len, cap, i + 1, by simpa using h0, ?_, World.cell?_setCell_same w _ _ h2, by rw [World.frozen?_setCell]; exact h3, by omega, by omega, h6, fun hl => ?_⟩
  · rw [World.cell?_setCell_other w _ _ _ (by intro h; cases h)]; exact h1
  · obtain ⟨b, off, ha, hbC, hz⟩ := h7 hl
    refine ⟨b, off, ha, hbC, fun j hj => ?_⟩
    rw [World.cell?_setCell_other w _ _ _ (by intro h; injection h with h1 _ _; omega)]
    exact hz j hj
/-- what Next leaves -/
def NextPost (C : Nat) (n : Int) (w : World) (e : Ending) (w' : World) : Prop :=
  ∃ x : Int, e = .returned (.int .i64 x) ∧ 0 ≤ x ∧ (x < n ∨ x = 0) ∧ Besides C w w' ∧ CodesOk w' C
set_option maxHeartbeats 400000 in
theorem next_end (C : Nat) (a : Option Addr) (len cap : Nat) (i n : Int) (w : World) (h : CodesAt w C a len cap i) (hz : (len : Int) ≤ i ∨ n < 1) :
    Calls Try.prog 17 #[.pointer (some ⟨C, 0, none⟩), .int .i64 n] w (NextPost C n w) := by
  have HK : Hid (CodesOk w C) := ⟨a, len, cap, i, h⟩
  have h1 := h.2.1
  have h2 := h.2.2.1
  clear h
  by_cases hl : (len : Int) ≤ i
  · have d1 : decide ((len : Int) ≤ i) = true := by simpa using hl
    clear hz
    go_enter Try.func17, Try.ntmps17
    go_wp2
    go_quiet (fail)
    go_wp2
    go_ret
    exact ⟨0, rfl, Int.le_refl _, Or.inr rfl, (Besides.refl _ _).drewN _, HK.out.drewN _⟩
  · have d1 : decide ((len : Int) ≤ i) = false := by simpa using hl
    have hn : n < 1 := by omega
    have d2 : decide (n < 1) = true := by simpa using hn
    clear hz
    go_enter Try.func17, Try.ntmps17
    go_wp2
    go_quiet (fail)
    go_wp2
    go_ret
    exact ⟨0, rfl, Int.le_refl _, Or.inr rfl, (Besides.refl _ _).drewN _, HK.out.drewN _⟩
set_option maxHeartbeats 400000 in
theorem next_small (C : Nat) (n : Int) (w : World) (h : CodesOk w C) (hn : n ≤ 256) :
    Calls Try.prog 17 #[.pointer (some ⟨C, 0, none⟩), .int .i64 n] w (NextPost C n w) := by
  obtain ⟨a, len, cap, i, h⟩ := h
  by_cases hz : (len : Int) ≤ i ∨ n < 1
  · exact next_end C a len cap i n w h hz
  have hi : i < len := by omega
  have h1n : 1 ≤ n := by omega
  have HK : Hid (∀ q : Nat, CodesOk ((w.drewN q).setCell ⟨C, 1, none⟩ (.int .i64 (i + 1))) C) := fun q => (h.keep (w' := w.drewN q) (Nat.le_refl _) (fun _ _ => rfl)).next hi
  obtain ⟨h0, h1, h2, h3, h4, h5, h6, h7⟩ := h
  obtain ⟨b, off, rfl, hbC, hcell⟩ := h7 (by omega)
  obtain ⟨k, rfl⟩ := Int.eq_ofNat_of_zero_le h4
  obtain ⟨z, hzc, z0, z1⟩ := hcell k (by omega)
  clear hcell h7 hz
  have d1 : decide (len ≤ k) = false := by simp; omega
  have d2 : decide (n < 1) = false := by simp; omega
  have hk : (k : Int) < (len : Int) := by omega
  have hk0 : (0 : Int) ≤ (k : Int) := by omega
  have hg : ¬ 256 < n := by omega
  have dz := Int.emod_nonneg z (show n ≠ 0 by omega)
  have dz2 := Int.emod_lt_of_pos z (show 0 < n by omega)
  go_enter Try.func17, Try.ntmps17
  go_wp2
  go_quiet (fail)
  go_wp2
  go_quiet (fail)
  go_wp2
  go_ret
  exact ⟨z % n, rfl, dz, Or.inl dz2, ((Besides.refl _ _).drewN _).set _ _ (by decide), HK.out _⟩
set_option maxHeartbeats 400000 in
theorem next_any (C : Nat) (n : Int) (w : World) (h : CodesOk w C) (hmax : n ≤ 4611686018427387904) :
    Calls Try.prog 17 #[.pointer (some ⟨C, 0, none⟩), .int .i64 n] w (NextPost C n w) := by
  by_cases hn : n ≤ 256
  · exact next_small C n w h hn
  obtain ⟨a, len, cap, i, h⟩ := h
  by_cases hz : (len : Int) ≤ i
  · exact next_end C a len cap i n w h (Or.inl hz)
  have hi : i < len := by omega
  have HK : Hid (∀ q : Nat, CodesOk ((w.drewN q).setCell ⟨C, 1, none⟩ (.int .i64 (i + 1))) C) := fun q => (h.keep (w' := w.drewN q) (Nat.le_refl _) (fun _ _ => rfl)).next hi
  obtain ⟨h0, h1, h2, h3, h4, h5, h6, h7⟩ := h
  obtain ⟨b, off, rfl, hbC, hcell⟩ := h7 (by omega)
  obtain ⟨k, rfl⟩ := Int.eq_ofNat_of_zero_le h4
  obtain ⟨z, hzc, z0, z1⟩ := hcell k (by omega)
  clear hcell h7 hz
  have d1 : decide (len ≤ k) = false := by simp; omega
  have d2 : decide (n < 1) = false := by simp; omega
  have hk : (k : Int) < (len : Int) := by omega
  have hk0 : (0 : Int) ≤ (k : Int) := by omega
  have hg : 256 < n := by omega
  clear hn
  go_enter Try.func17, Try.ntmps17
  go_wp2_with fail
  go_quiet (fail)
  go_wp2_with fail
  go_quiet (fail)
  go_wp2_with fail
  refine (next_small C 256 _ (HK.out _) (by omega)).mono ?_
  rintro e w2 ⟨x, rfl, x0, x1, hb, hc⟩
  have x2 : x ≤ 255 := by omega
  clear x1
  have hn0 : 0 < n := by omega
  have dz := Int.emod_nonneg (256 * z + x) (show n ≠ 0 by omega)
  have dz2 := Int.emod_lt_of_pos (256 * z + x) (show 0 < n by omega)
  go_wp2_with fail
  go_ret
  exact ⟨_, rfl, dz, Or.inl dz2, (((Besides.refl _ _).drewN _).set _ _ (by decide)).trans hb, hc⟩
end Go.Proofs.Ythcjkbhkidijoaa
/- numbers as bytes, texts, and small facts on conversions: no walk -/
namespace Go.Proofs.Ythcjkbhkidijoaa
open Go.ChangeShapes Go.WideShapes Go.ChangeAt Go.RowKit


/-- byte k of a number -/
def leB (n : Int) (k : Nat) : UInt8 := UInt8.ofNat (n / 2 ^ (8 * k) % 256).toNat
theorem leB_toNat (n : Int) (k : Nat) : ((leB n k).toNat : Int) = n / 2 ^ (8 * k) % 256 := by
  unfold leB
  have h0 := Int.emod_nonneg (n / 2 ^ (8 * k)) (show (256 : Int) ≠ 0 by decide)
  have h1 := Int.emod_lt_of_pos (n / 2 ^ (8 * k)) (show (0 : Int) < 256 by decide)
  generalize n / 2 ^ (8 * k) % 256 = x at *
  rw [UInt8.toNat_ofNat']
  omega
/-- the lowest k bytes of a number -/
def leL (n : Int) (k : Nat) : List UInt8 := (List.range k).map (leB n)
def leS (n : Int) (k : Nat) : ByteArray := ⟨(leL n k).toArray⟩
theorem leL_length (n : Int) (k : Nat) : (leL n k).length = k := by simp [leL]
theorem leS_size (n : Int) (k : Nat) : (leS n k).size = k := by
  show (leL n k).toArray.size = k
  simp [leL_length]
theorem leL_succ (n : Int) (k : Nat) : leL n (k + 1) = leL n k ++ [leB n k] := by
  unfold leL; rw [List.range_succ, List.map_append]; rfl
theorem leL_getD (n : Int) (k j : Nat) (h : j < k) : (leL n k)[j]'(by rw [leL_length]; exact h) = leB n j := by
  simp [leL]
theorem str_eq {a b : ByteArray} (h : a.data.toList = b.data.toList) : a = b := by
  apply ByteArray.ext; apply Array.toList_inj.1; exact h
theorem str_app (a b : ByteArray) : (a ++ b).data.toList = a.data.toList ++ b.data.toList := by
  rw [ByteArray.data_append, Array.toList_append]
theorem ret_str {a b : ByteArray} (h : a = b) : Ending.returned (.string a) = .returned (.string b) := by rw [h]
theorem byte_of_u64 (n : Int) (k : Nat) (hk : k < 8) : IntKind.u64.wrap n / 2 ^ (8 * k) % 256 = ((leB n k).toNat : Int) := by
  rw [IntKind.wrap_u64, leB_toNat]
  match k, hk with
  | 0, _ => simp only [Nat.mul_zero, Int.pow_zero]; omega
  | 1, _ => simp only [show (2 : Int) ^ (8 * 1) = 256 from by decide]; omega
  | 2, _ => simp only [show (2 : Int) ^ (8 * 2) = 65536 from by decide]; omega
  | 3, _ => simp only [show (2 : Int) ^ (8 * 3) = 16777216 from by decide]; omega
  | 4, _ => simp only [show (2 : Int) ^ (8 * 4) = 4294967296 from by decide]; omega
  | 5, _ => simp only [show (2 : Int) ^ (8 * 5) = 1099511627776 from by decide]; omega
  | 6, _ => simp only [show (2 : Int) ^ (8 * 6) = 281474976710656 from by decide]; omega
  | 7, _ => simp only [show (2 : Int) ^ (8 * 7) = 72057594037927936 from by decide]; omega
/-- a text of one byte -/
theorem conv_one (w : World) (b : UInt8) : Sem.run Try.prog (convert 22 9 (.slice (some ⟨w.heap.size, 0, none⟩) 1 1)) (w.alloc (.cells #[.int .u8 (b.toNat : Int)] 5)) = .ok (.string ⟨#[b]⟩) (w.alloc (.cells #[.int .u8 (b.toNat : Int)] 5)) :=
  run_convert_bytes_back (P := Try.prog) (w.alloc (.cells #[.int .u8 (b.toNat : Int)] 5)) 22 9 5 ⟨w.heap.size, 0, none⟩ 1 [b] Try.underlying22 Try.underlying5 Try.underlying9 (fun j hj => by
    have : j = 0 := by simpa using hj
    subst this
    show (w.alloc _).cell? ⟨w.heap.size, 0, none⟩ = _
    rw [World.cell?_alloc_new]; rfl)
/-- the number in bytes, without a sign -/
def leNum (s : ByteArray) (at_ : Nat) : Nat → Nat
  | 0 => 0
  | k + 1 => leNum s at_ k + (s.data.toList.getD (at_ + k) 0).toNat * 256 ^ k
theorem leNum_lt (s : ByteArray) (at_ k : Nat) : leNum s at_ k < 256 ^ k := by
  induction k with
  | zero => simp [leNum]
  | succ k ih =>
    have hb : (s.data.toList.getD (at_ + k) 0).toNat ≤ 255 := by have := (s.data.toList.getD (at_ + k) 0).toNat_lt; omega
    have hm := Nat.mul_le_mul_right (256 ^ k) hb
    rw [leNum, Nat.pow_succ]
    omega
theorem getD_at (s : ByteArray) (i : Nat) (h : i < s.size) : s.data.toList.getD i 0 = s[i] := by
  have h' : i < s.data.toList.length := by simpa using h
  rw [List.getD_eq_getElem?_getD, List.getElem?_eq_getElem h', Option.getD_some]; rfl
theorem ofInt_wrap (k : IntKind) (x : Int) : BitVec.ofInt k.bits (k.wrap x) = BitVec.ofInt k.bits x := by
  apply BitVec.eq_of_toInt_eq
  rw [BitVec.toInt_ofInt, BitVec.toInt_ofInt]
  have : (k.wrap x) % (2 ^ k.bits : Nat) = x % (2 ^ k.bits : Nat) := by
    unfold IntKind.wrap
    simp only []
    split
    · rw [show ((2 : Int) ^ k.bits) = ((2 ^ k.bits : Nat) : Int) from by simp, Int.sub_emod_right, Int.emod_emod]
    · rw [show ((2 : Int) ^ k.bits) = ((2 ^ k.bits : Nat) : Int) from by simp, Int.emod_emod]
  rw [← Int.emod_bmod, this, Int.emod_bmod]
theorem w64 (n : Int) : IntKind.i64.wrap n = wrap64 n := by rw [IntKind.wrap_i64]; unfold wrap64; rfl
/-- a byte more, by 'or': whatever the kind of 64 bits -/
theorem or_nat (X b k : Nat) (hX : X < 256 ^ k) (hb : b < 256) (hk : k < 8) :
    (BitVec.ofInt 64 (X : Int) ||| BitVec.ofInt 64 ((b : Int) * 2 ^ (8 * k))).toNat = X + b * 256 ^ k := by
  have e1 : (2 : Int) ^ (8 * k) = ((256 ^ k : Nat) : Int) := by
    rw [show (256 : Nat) = 2 ^ 8 from rfl, ← Nat.pow_mul]; simp
  have e2 : (b : Int) * 2 ^ (8 * k) = ((b * 256 ^ k : Nat) : Int) := by rw [e1]; simp
  have hle : 256 ^ k * 256 ≤ 2 ^ 64 := by
    have : 256 ^ (k + 1) ≤ 256 ^ 8 := Nat.pow_le_pow_right (by decide) (by omega)
    rw [Nat.pow_succ] at this
    exact this
  have hbk : b * 256 ^ k ≤ 255 * 256 ^ k := Nat.mul_le_mul_right _ (by omega)
  rw [e2, BitVec.ofInt_natCast, BitVec.ofInt_natCast, BitVec.toNat_or, BitVec.toNat_ofNat, BitVec.toNat_ofNat, Nat.mod_eq_of_lt (by omega), Nat.mod_eq_of_lt (by omega)]
  have e3 : 256 ^ k = 2 ^ (8 * k) := by rw [show (256 : Nat) = 2 ^ 8 from rfl, ← Nat.pow_mul]
  rw [e3] at hX ⊢
  rw [Nat.or_comm, Nat.mul_comm b, ← Nat.two_pow_add_eq_or_of_lt hX, Nat.add_comm]
theorem or_i64 (X b k : Nat) (hX : X < 256 ^ k) (hb : b < 256) (hk : k < 8) :
    bits .or .i64 (wrap64 (X : Int)) (wrap64 (wrap64 (b : Int) * 2 ^ (8 * k))) = wrap64 ((X + b * 256 ^ k : Nat) : Int) := by
  have w1 : wrap64 (b : Int) = (b : Int) := IntWalk.wrap64_in _ ⟨by omega, by omega⟩
  rw [w1]
  show IntKind.i64.wrap ((BitVec.ofInt 64 (wrap64 (X : Int)) ||| BitVec.ofInt 64 (wrap64 ((b : Int) * 2 ^ (8 * k)))).toNat : Int) = _
  have a1 : BitVec.ofInt 64 (wrap64 (X : Int)) = BitVec.ofInt 64 (X : Int) := by rw [← w64]; exact ofInt_wrap .i64 _
  have a2 : BitVec.ofInt 64 (wrap64 ((b : Int) * 2 ^ (8 * k))) = BitVec.ofInt 64 ((b : Int) * 2 ^ (8 * k)) := by rw [← w64]; exact ofInt_wrap .i64 _
  rw [a1, a2, or_nat X b k hX hb hk, w64]
theorem wrap64_0 : wrap64 0 = 0 := IntWalk.wrap64_in 0 (by omega)
theorem or_u64 (X b k : Nat) (hX : X < 256 ^ k) (hb : b < 256) (hk : k < 8) :
    bits .or .u64 (X : Int) (IntKind.u64.wrap (IntKind.u64.wrap (b : Int) * 2 ^ (8 * k))) = ((X + b * 256 ^ k : Nat) : Int) := by
  have w1 : IntKind.u64.wrap (b : Int) = (b : Int) := by rw [IntKind.wrap_u64]; omega
  rw [w1]
  show IntKind.u64.wrap ((BitVec.ofInt 64 (X : Int) ||| BitVec.ofInt 64 (IntKind.u64.wrap ((b : Int) * 2 ^ (8 * k)))).toNat : Int) = _
  have a2 : BitVec.ofInt 64 (IntKind.u64.wrap ((b : Int) * 2 ^ (8 * k))) = BitVec.ofInt 64 ((b : Int) * 2 ^ (8 * k)) := ofInt_wrap .u64 _
  rw [a2]
  have hlt := (BitVec.ofInt 64 (X : Int) ||| BitVec.ofInt 64 ((b : Int) * 2 ^ (8 * k))).isLt
  rw [or_nat X b k hX hb hk] at hlt ⊢
  rw [IntKind.wrap_u64]
  omega
theorem u64_in (x : Nat) (h : x < 18446744073709551616) : IntKind.u64.wrap (x : Int) = (x : Int) := by rw [IntKind.wrap_u64]; omega
/-- what Get answers, for every text and all numbers -/
def getR (s : ByteArray) (a z : Int) : Int × Int :=
  if (z < 1 ∨ 8 < z) ∨ a < 0 then (0, 1) else if (s.size : Int) < a + z then (0, 5) else (wrap64 (leNum s a.toNat z.toNat), 0)
/-- what Put answers -/
def putR (s : ByteArray) (n z : Int) : ByteArray := if z < 1 ∨ 8 < z then s else s ++ leS n z.toNat
/-- a text of one byte, at any world -/
theorem conv_at (W : World) (A : Nat) (y : Int) (y0 : 0 ≤ y) (y1 : y ≤ 255) (h : W.cell? ⟨A, 0, none⟩ = some (.int .u8 y)) : Sem.run Try.prog (convert 22 9 (.slice (some ⟨A, 0, none⟩) 1 1)) W = .ok (.string ⟨#[UInt8.ofNat y.toNat]⟩) W := by
  refine run_convert_bytes_back (P := Try.prog) W 22 9 5 ⟨A, 0, none⟩ 1 [UInt8.ofNat y.toNat] Try.underlying22 Try.underlying5 Try.underlying9 (fun j hj => ?_)
  have : j = 0 := by simpa using hj
  subst this
  show W.cell? ⟨A, 0, none⟩ = _
  rw [h]
  show some (Value.int .u8 y) = some (Value.int .u8 (((UInt8.ofNat y.toNat).toNat : Nat) : Int))
  rw [UInt8.toNat_ofNat', show ((y.toNat % 2 ^ 8 : Nat) : Int) = y from by omega]
theorem xor_in (a b : Int) : 0 ≤ bits .xor .u8 a b ∧ bits .xor .u8 a b ≤ 255 := by
  show 0 ≤ IntKind.u8.wrap ((BitVec.ofInt 8 a ^^^ BitVec.ofInt 8 b).toNat : Int) ∧ IntKind.u8.wrap ((BitVec.ofInt 8 a ^^^ BitVec.ofInt 8 b).toNat : Int) ≤ 255
  rw [IntKind.wrap_u8']
  omega
theorem conv_ex (w : World) (a b : Int) : ∃ (y : Int) (u : UInt8), bits .xor .u8 a b = y ∧ Sem.run Try.prog (convert 22 9 (.slice (some ⟨w.heap.size, 0, none⟩) 1 1)) (w.alloc (.cells #[.int .u8 y] 5)) = .ok (.string ⟨#[u]⟩) (w.alloc (.cells #[.int .u8 y] 5)) :=
  ⟨_, _, rfl, conv_at _ _ _ (xor_in a b).1 (xor_in a b).2 (by rw [World.cell?_alloc_new]; rfl)⟩
theorem size_one (b : UInt8) : (⟨#[b]⟩ : ByteArray).size = 1 := rfl
theorem byte_of_wf {n : Int} (h : (Lit.int .u8 n).wf = true) : ∃ b : UInt8, n = (b.toNat : Int) := by
  have := bounds_u8 h
  refine ⟨UInt8.ofNat n.toNat, ?_⟩
  rw [UInt8.toNat_ofNat']
  omega

theorem leNum_of (s : ByteArray) (a : Nat) (n : Int) (k : Nat) (h : ∀ i, i < k → s.data.toList.getD (a + i) 0 = leB n i) : (leNum s a k : Int) = n % 2 ^ (8 * k) := by
  induction k with
  | zero => simp [leNum, Int.emod_one]
  | succ k ih =>
    have ih' := ih (fun i hi => h i (by omega))
    rw [leNum, h k (by omega)]
    have hb := leB_toNat n k
    have e1 : (2 : Int) ^ (8 * (k + 1)) = 2 ^ (8 * k) * 256 := by rw [show 8 * (k + 1) = 8 * k + 8 from by omega, Int.pow_add]; rfl
    have e2 : ((256 ^ k : Nat) : Int) = 2 ^ (8 * k) := by rw [show (256 : Nat) = 2 ^ 8 from rfl, ← Nat.pow_mul]; simp
    have hp : (0 : Int) < 2 ^ (8 * k) := Int.pow_pos (by decide)
    rw [Int.natCast_add, Int.natCast_mul, e2, ih', hb, e1]
    generalize (2 : Int) ^ (8 * k) = q at *
    have c0 := Int.emod_add_mul_ediv n q
    have c1 := Int.emod_add_mul_ediv (n / q) 256
    have b0 := Int.emod_nonneg n (show q ≠ 0 by omega)
    have b1 := Int.emod_lt_of_pos n hp
    have b2 := Int.emod_nonneg (n / q) (show (256 : Int) ≠ 0 by decide)
    have b3 := Int.emod_lt_of_pos (n / q) (show (0 : Int) < 256 by decide)
    have hn : n = (n % q + q * (n / q % 256)) + q * 256 * (n / q / 256) := by
      rw [Int.mul_assoc, Int.add_assoc, ← Int.mul_add, c1, c0]
    have hr0 : 0 ≤ n % q + q * (n / q % 256) := Int.add_nonneg b0 (Int.mul_nonneg (by omega) b2)
    have hr1 : n % q + q * (n / q % 256) < q * 256 := by
      have : q * (n / q % 256) ≤ q * 255 := Int.mul_le_mul_of_nonneg_left (by omega) (by omega)
      omega
    conv => rhs; rw [hn]
    rw [Int.add_mul_emod_self_left, Int.emod_eq_of_lt hr0 hr1, Int.mul_comm]

theorem leNum_congr (s t : ByteArray) (a : Nat) (k : Nat) (h : ∀ i, i < k → s.data.toList.getD (a + i) 0 = t.data.toList.getD (a + i) 0) : leNum s a k = leNum t a k := by
  induction k with
  | zero => rfl
  | succ k ih => rw [leNum, leNum, ih (fun i hi => h i (by omega)), h k (by omega)]
theorem leNum_inj (s t : ByteArray) (a : Nat) (k : Nat) (h : leNum s a k = leNum t a k) : ∀ i, i < k → s.data.toList.getD (a + i) 0 = t.data.toList.getD (a + i) 0 := by
  induction k with
  | zero => intro i hi; omega
  | succ k ih =>
    rw [leNum, leNum] at h
    have h1 := leNum_lt s a k
    have h2 := leNum_lt t a k
    have hp : 0 < 256 ^ k := Nat.pow_pos (by decide)
    have e1 := congrArg (fun x => x / 256 ^ k) h
    have e2 := congrArg (fun x => x % 256 ^ k) h
    simp only [Nat.add_mul_div_right _ _ hp, Nat.div_eq_of_lt h1, Nat.div_eq_of_lt h2, Nat.zero_add] at e1
    simp only [Nat.add_mul_mod_self_right, Nat.mod_eq_of_lt h1, Nat.mod_eq_of_lt h2] at e2
    intro i hi
    by_cases hk : i = k
    · subst hk; exact UInt8.toNat_inj.1 e1
    · exact ih e2 i (by omega)
theorem size_list (s : ByteArray) : s.data.toList.length = s.size := by simp
theorem extract_list (s : ByteArray) (a b : Nat) : (s.extract a b).data.toList = (s.data.toList.take b).drop a := by
  rw [ByteArray.data_extract, Array.toList_extract, List.extract_eq_take_drop, List.take_drop]
  by_cases h : a ≤ b
  · rw [Nat.add_sub_cancel' h]
  · rw [show a + (b - a) = a from by omega]
    have h1 : (List.take a s.data.toList).drop a = [] := List.drop_eq_nil_of_le (by simp; omega)
    have h2 : (List.take b s.data.toList).drop a = [] := List.drop_eq_nil_of_le (by simp; omega)
    rw [h1, h2]
theorem leL_get (n : Int) (k i : Nat) (h : i < k) : (leL n k).getD i 0 = leB n i := by
  rw [List.getD_eq_getElem?_getD, List.getElem?_eq_getElem (by rw [leL_length]; exact h), Option.getD_some, leL_getD n k i h]
theorem getD_left (a b : List UInt8) (i : Nat) (h : i < a.length) : (a ++ b).getD i 0 = a.getD i 0 := by
  rw [List.getD_eq_getElem?_getD, List.getElem?_append_left h, ← List.getD_eq_getElem?_getD]
theorem getD_right (a b : List UInt8) (i : Nat) : (a ++ b).getD (a.length + i) 0 = b.getD i 0 := by
  rw [List.getD_eq_getElem?_getD, List.getElem?_append_right (by omega), Nat.add_sub_cancel_left, ← List.getD_eq_getElem?_getD]

/-- a slice of integers that came in: nil, or a row of cells with the numbers zs -/
def IsRow (k : IntKind) (w : World) (a : Option Addr) (len cap : Nat) (zs : List Int) : Prop :=
  (a = none ∧ len = 0 ∧ cap = 0 ∧ zs = []) ∨
  ∃ x, a = some x ∧ len ≤ cap ∧ cap ≤ maxLen ∧ zs.length = cap ∧ (∀ i, i < zs.length → w.cell? (x.add i) = some (.int k (zs.getD i 0))) ∧ ∀ n ∈ zs, (Lit.int k n).wf = true
end Go.Proofs.Ythcjkbhkidijoaa
/- the choices of the drawing package: New and Spoilt -/
namespace Go.Proofs.Ythcjkbhkidijoaa
open Go.RowKit
set_option maxRecDepth 20000
/-- the codes of a slice that came in, at a block behind it -/
theorem codes_of_row {w : World} {a : Option Addr} {len cap : Nat} {zs : List Int} (h : IsRow .u8 w a len cap zs) (l c : Nat) (hl : l ≤ len) (hl2 : l ≤ 4611686018427387904) :
    CodesOk (w.alloc (.cells #[.slice a l c, .int .i64 0] 60)) w.heap.size := by
  refine ⟨a, l, c, 0, by simp, by rw [World.cell?_alloc_new]; rfl, by rw [World.cell?_alloc_new]; rfl, by rw [World.frozen?_alloc_new], by omega, by omega, hl2, fun h0 => ?_⟩
  rcases h with ⟨_, h, _, _⟩ | ⟨x, rfl, hlc, _, hz, hcell, hwf⟩
  · omega
  · obtain ⟨b, off, spot⟩ := x
    have hc := hcell 0 (by omega)
    have hspot : spot = none := by simpa [Addr.add] using World.cell?_spot hc
    subst hspot
    have hb0 : w.cell? ⟨b, off, none⟩ = some (.int .u8 (zs.getD 0 0)) := by simpa [Addr.add] using hc
    have hb : b < w.heap.size := World.block_lt_of_cell? w _ hb0
    refine ⟨b, off, rfl, hb, fun j hj => ⟨zs.getD j 0, ?_, ?_⟩⟩
    · have e : (⟨b, off, none⟩ : Addr).add j = ⟨b, off + j, none⟩ := by
        simp only [Addr.add]; split
        · next h => rw [h]; rfl
        · rfl
      have := hcell j (by omega)
      rw [e] at this
      rw [World.cell?_alloc_lt _ _ _ hb]
      exact this
    · have hm : zs.getD j 0 ∈ zs := by
        rw [List.getD_eq_getElem?_getD, List.getElem?_eq_getElem (by omega), Option.getD_some]; exact List.getElem_mem _
      obtain ⟨u, hu⟩ := byte_of_wf (hwf _ hm)
      have := u.toNat_lt
      rw [hu]
      omega
set_option maxHeartbeats 400000 in
theorem new_any (a : Option Addr) (len cap : Nat) (zs : List Int) (w : World) (h : IsRow .u8 w a len cap zs) :
    Calls Try.prog 11 #[.slice a len cap, .int .i64 60] w fun e w' => e = .returned (.pointer (some ⟨w.heap.size, 0, none⟩)) ∧ Below w.heap.size w w' ∧ CodesOk w' w.heap.size := by
  by_cases hl : 60 < len
  · have HK := Lib.hid (codes_of_row h 60 cap (by omega) (by omega))
    rcases h with ⟨_, h, _, _⟩ | ⟨x, rfl, hlc, hcm, hz, _, _⟩
    · omega
    · have hcap : (60 : Int) ≤ (cap : Int) := by omega
      clear hz
      go_enter Try.func11, Try.ntmps11
      go_wp2
      go_ret
      exact ⟨rfl, (Below.refl _ _).alloc (Nat.le_refl _) _, HK.out⟩
  · have HK := Lib.hid (codes_of_row h len cap (Nat.le_refl _) (by omega))
    clear h
    go_enter Try.func11, Try.ntmps11
    go_wp2
    go_ret
    exact ⟨rfl, (Below.refl _ _).alloc (Nat.le_refl _) _, HK.out⟩
end Go.Proofs.Ythcjkbhkidijoaa
/- small things about memory that all texts use -/
namespace Go.Proofs.Ythcjkbhkidijoaa
open Go.RowKit
set_option maxRecDepth 20000

theorem all_false {α : Type} {l : List α} {f : α → Bool} {c : α} (h : c ∈ l) (hf : f c = false) : l.all f = false := by
  rw [List.all_eq_false]; exact ⟨c, h, by rw [hf]; decide⟩
theorem ret_bool {a b : Bool} (h : a = b) : Ending.returned (.bool a) = .returned (.bool b) := by rw [h]
theorem heap_alloc_last (w : World) (o : Obj) : (w.alloc o).heap[w.heap.size]? = some o := by
  show (w.heap.push o)[w.heap.size]? = some o
  simp
theorem Besides.then_below {C : Nat} {a w w' : World} (h : Besides C a w) (hb : Below a.heap.size w w') : Besides C a w' :=
  ⟨hb.os.trans h.os, hb.tape.trans h.tape, hb.output.trans h.output, Nat.le_trans h.size hb.size, fun k hk hC => (hb.block k hk).trans (h.block k hk hC), fun hC => (World.cell?_of_block (a := ⟨C, 0, none⟩) (hb.block C hC)).trans (h.head hC)⟩
theorem Besides.setOwn {C B : Nat} {a w : World} (h : Besides C a w) (hB : a.heap.size ≤ B) (j : Nat) (u : Value) : Besides C a (w.setCell ⟨B, j, none⟩ u) :=
  h.then_below ((Below.refl _ _).setCell (p := ⟨B, j, none⟩) hB u)
theorem CodesOk.setOwn {C B : Nat} {w : World} (h : CodesOk w C) (hB : C < B) (j : Nat) (u : Value) : CodesOk (w.setCell ⟨B, j, none⟩ u) C :=
  h.below ((Below.refl B w).setCell (p := ⟨B, j, none⟩) (Nat.le_refl _) u) hB
theorem info_byte : (Try.prog.info? 5).map (fun i => (i.zero, i.size, i.bytes)) = some (some (.int .u8 0), 1, 1) := by kernel_rfl
theorem info_of {t : TypeId} {z : Value} {s b : Nat} (h : (Try.prog.info? t).map (fun i => (i.zero, i.size, i.bytes)) = some (some z, s, b)) : ∃ i, Try.prog.info? t = some i ∧ i.zero = some z ∧ i.size = s ∧ i.bytes = b := by
  cases e : Try.prog.info? t with
  | none => rw [e] at h; cases h
  | some i =>
    rw [e] at h
    simp only [Option.map_some, Option.some.injEq, Prod.mk.injEq] at h
    exact ⟨i, rfl, h.1, h.2.1, h.2.2⟩
theorem info_byte' : ∃ i, Try.prog.info? 5 = some i ∧ i.zero = some (.int .u8 0) ∧ i.size = 1 ∧ i.bytes = 1 := info_of info_byte
end Go.Proofs.Ythcjkbhkidijoaa
/- what all laws begin with: the choices -/
namespace Go.Proofs.Ythcjkbhkidijoaa
open Go.RowKit
set_option maxRecDepth 20000

/-- the codes' own slice -/
def CodesRow (W : World) (B : Nat) (a : Option Addr) (len : Nat) : Prop := ∃ l c, W.cell? ⟨B, 0, none⟩ = some (.slice a l c) ∧ (0 < l → 0 < len)
set_option maxHeartbeats 400000 in
theorem new_at (m : Nat) (hm : m ≤ 1000) (a : Option Addr) (len cap : Nat) (zs : List Int) (w : World) (h : IsRow .u8 w a len cap zs) :
    Calls Try.prog 11 #[.slice a len cap, .int .i64 m] w fun e w' => e = .returned (.pointer (some ⟨w.heap.size, 0, none⟩)) ∧ Below w.heap.size w w' ∧ CodesOk w' w.heap.size ∧ CodesRow w' w.heap.size a len := by
  by_cases hl : m < len
  · have HK := Lib.hid (codes_of_row h m cap (by omega) (by omega))
    rcases h with ⟨_, h, _, _⟩ | ⟨x, rfl, hlc, hcm, hz, _, _⟩
    · omega
    · have hcap : (m : Int) ≤ (cap : Int) := by omega
      have hi : (m : Int) < (len : Int) := by omega
      have hm0 : (0 : Int) ≤ (m : Int) := by omega
      have HL : Hid (m < len) := hl
      clear hz
      go_enter Try.func11, Try.ntmps11
      go_wp2
      go_ret
      exact ⟨rfl, (Below.refl _ _).alloc (Nat.le_refl _) _, HK.out, ⟨_, _, by rw [World.cell?_alloc_new]; rfl, fun _ => by have := HL.out; omega⟩⟩
  · have hle : len ≤ 4611686018427387904 := by omega
    have HK := Lib.hid (codes_of_row h len cap (Nat.le_refl _) hle)
    have hi : ¬ ((m : Int) < (len : Int)) := by omega
    clear h
    go_enter Try.func11, Try.ntmps11
    go_wp2
    go_ret
    refine ⟨rfl, (Below.refl _ _).alloc (Nat.le_refl _) _, HK.out, ⟨len, cap, ?_, fun h0 => h0⟩⟩
    rw [World.cell?_alloc_new]
    rfl
theorem new_to (m : Nat) (hm : m ≤ 1000) (a : Option Addr) (len cap : Nat) (zs : List Int) (w : World) (h : IsRow .u8 w a len cap zs) :
    Calls Try.prog 11 #[.slice a len cap, .int .i64 m] w fun e w' => e = .returned (.pointer (some ⟨w.heap.size, 0, none⟩)) ∧ Below w.heap.size w w' ∧ CodesOk w' w.heap.size :=
  (new_at m hm a len cap zs w h).mono fun _ _ h => ⟨h.1, h.2.1, h.2.2.1⟩
theorem row_below {w w1 : World} {x : Option Addr} {len cap : Nat} {zs : List Int} (hr : IsRow .u8 w x len cap zs) (hb : Below w.heap.size w w1) : IsRow .u8 w1 x len cap zs := by
  rcases hr with h | ⟨b, hb1, hb2, hb3, hb4, hb5, hb6⟩
  · exact .inl h
  · refine .inr ⟨b, hb1, hb2, hb3, hb4, fun j hj => ?_, hb6⟩
    have hc := hb5 j hj
    rw [hb.cell (World.block_lt_of_cell? w _ hc)]
    exact hc
end Go.Proofs.Ythcjkbhkidijoaa
/- objects in memory, and what a walk keeps of them -/
namespace Go.Proofs.Ythcjkbhkidijoaa
open Go.RowKit
set_option maxRecDepth 20000

/-- an object: a block of cells -/
structure Ob where
  b : Nat
  t : TypeId
  cs : List Value
def Ob.In (o : Ob) (W : World) : Prop := W.heap[o.b]? = some (.cells o.cs.toArray o.t (0, 0))
theorem Ob.In.lt {o : Ob} {W : World} (h : o.In W) : o.b < W.heap.size := (Array.getElem?_eq_some_iff.1 h).1
theorem Ob.In.below {o : Ob} {W W' : World} {B : Nat} (h : o.In W) (hb : Below B W W') (hB : o.b < B) : o.In W' := (hb.block _ hB).trans h
theorem Ob.In.calls {o : Ob} {W W' : World} (h : o.In W) (hb : Below W.heap.size W W') : o.In W' := h.below hb h.lt
theorem Ob.In.besides {o : Ob} {W W' : World} {C : Nat} (h : o.In W) (hb : Besides C W W') (hC : o.b ≠ C) : o.In W' := (hb.block _ h.lt hC).trans h
theorem Ob.In.cell {o : Ob} {W : World} (h : o.In W) (k : Nat) : W.cell? ⟨o.b, k, none⟩ = o.cs[k]? := by
  rw [cell_of_row W o.b k _ _ _ h, List.getElem?_toArray]
theorem Ob.In.at {o : Ob} {W : World} (h : o.In W) (k : Nat) {v : Value} (hv : o.cs[k]? = some v) : W.cell? ⟨o.b, k, none⟩ = some v := (h.cell k).trans hv
theorem Ob.In.frozen {o : Ob} {W : World} (h : o.In W) (k : Nat) : W.frozen? ⟨o.b, k, none⟩ = false := frozen_of_row _ _ _ _ _ h
theorem Ob.In.range {o : Ob} {W : World} (h : o.In W) (k : Nat) (vs : List Value) (hv : ∀ j v, vs[j]? = some v → o.cs[k + j]? = some v) : W.rangeAt o.b k vs := fun j v e => by
  rw [h.cell, hv j v e]
theorem Ob.In.whole {o : Ob} {W : World} (h : o.In W) : W.rangeAt o.b 0 o.cs := h.range 0 _ (fun j v e => by rw [Nat.zero_add]; exact e)
theorem Ob.In.there {o : Ob} {W : World} (h : o.In W) (k n : Nat) (hn : k + n ≤ o.cs.length) : W.there o.b k n := fun j hj => by
  rw [h.cell, h.frozen, List.getElem?_eq_getElem (by omega)]
  exact ⟨rfl, rfl⟩
theorem Ob.In.set {o : Ob} {W : World} (h : o.In W) (k : Nat) (v : Value) : Ob.In ⟨o.b, o.t, o.cs.set k v⟩ (W.setCell ⟨o.b, k, none⟩ v) := by
  have := heap_setCell_same W o.b k _ _ v h
  rw [List.setIfInBounds_toArray] at this
  exact this
theorem Ob.In.other {o : Ob} {W : World} (h : o.In W) (b k : Nat) (v : Value) (hb : o.b ≠ b) : o.In (W.setCell ⟨b, k, none⟩ v) := (Below.heap_setCell _ _ _ _ hb).trans h
theorem Ob.In.drew {o : Ob} {W : World} (h : o.In W) : o.In W.drew := h

/-- what was there is as it was, and these objects lie in new memory -/
structure Fr (w : World) (L : List Ob) (W : World) : Prop where
  old : Below w.heap.size w W
  obs : ∀ o ∈ L, o.In W
  new : ∀ o ∈ L, w.heap.size ≤ o.b
  nd : L.Pairwise fun o o' => o.b ≠ o'.b
theorem Fr.start (w : World) : Fr w [] w := ⟨Below.refl _ _, by simp, by simp, .nil⟩
theorem Fr.at {w W : World} {L : List Ob} (h : Fr w L W) (i : Nat) {o : Ob} (e : L[i]? = some o) : o.In W := h.obs _ (List.mem_of_getElem? e)
theorem Fr.get {w W : World} {L : List Ob} (h : Fr w L W) (i : Nat) {b : Nat} {t : TypeId} {cs : List Value} (e : L[i]? = some ⟨b, t, cs⟩) : W.heap[b]? = some (.cells cs.toArray t (0, 0)) := h.at i e
theorem Fr.drew {w W : World} {L : List Ob} (h : Fr w L W) : Fr w L W.drew := ⟨h.old.drew, h.obs, h.new, h.nd⟩
theorem Fr.drewN {w W : World} {L : List Ob} (h : Fr w L W) (q : Nat) : Fr w L (W.drewN q) := ⟨⟨h.old.os, h.old.tape, h.old.output, h.old.size, h.old.block⟩, h.obs, h.new, h.nd⟩
theorem Fr.calls {w W W' : World} {L : List Ob} (h : Fr w L W) (hb : Below W.heap.size W W') : Fr w L W' :=
  ⟨h.old.trans (hb.mono h.old.size), fun o ho => (h.obs o ho).calls hb, h.new, h.nd⟩
theorem Fr.besides {w W W' : World} {L : List Ob} {C : Nat} (h : Fr w L W) (hb : Besides C W W') (hw : w.heap.size ≤ C) (hC : ∀ o ∈ L, o.b ≠ C) : Fr w L W' :=
  ⟨h.old.trans (hb.below hw h.old.size), fun o ho => (h.obs o ho).besides hb (hC o ho), h.new, h.nd⟩
theorem Fr.put {w W : World} {L : List Ob} (h : Fr w L W) (t : TypeId) (cs : List Value) : Fr w (L ++ [⟨W.heap.size, t, cs⟩]) (W.alloc (.cells cs.toArray t)) := by
  refine ⟨h.old.trans (((Below.refl _ _).alloc (Nat.le_refl _) _).mono h.old.size), fun o ho => ?_, fun o ho => ?_, ?_⟩
  · rcases List.mem_append.1 ho with ho | ho
    · exact (h.obs o ho).calls ((Below.refl _ _).alloc (Nat.le_refl _) _)
    · obtain rfl := List.mem_singleton.1 ho
      exact heap_alloc_last W _
  · rcases List.mem_append.1 ho with ho | ho
    · exact h.new o ho
    · obtain rfl := List.mem_singleton.1 ho
      exact h.old.size
  · rw [List.pairwise_append]
    refine ⟨h.nd, List.pairwise_singleton _ _, fun a ha b hb => ?_⟩
    obtain rfl := List.mem_singleton.1 hb
    have := (h.obs a ha).lt
    show a.b ≠ W.heap.size
    omega
theorem pair_ne {L : List Ob} (hn : L.Pairwise fun o o' => o.b ≠ o'.b) : ∀ (i j : Nat) (x y : Ob), L[i]? = some x → L[j]? = some y → i ≠ j → x.b ≠ y.b := by
  induction L with
  | nil => intro i j x y hx; simp at hx
  | cons z l ih =>
    rw [List.pairwise_cons] at hn
    intro i j x y hx hy hij
    cases i with
    | zero =>
      cases j with
      | zero => exact absurd rfl hij
      | succ j =>
        obtain rfl : z = x := by simpa using hx
        exact hn.1 y (List.mem_of_getElem? (by simpa using hy))
    | succ i =>
      cases j with
      | zero =>
        obtain rfl : z = y := by simpa using hy
        exact fun e => hn.1 x (List.mem_of_getElem? (by simpa using hx)) e.symm
      | succ j => exact ih hn.2 i j x y (by simpa using hx) (by simpa using hy) (by omega)
theorem Fr.ne {w W : World} {L : List Ob} (h : Fr w L W) (i j : Nat) {b c : Nat} {t u : TypeId} {x y : List Value} (ei : L[i]? = some ⟨b, t, x⟩) (ej : L[j]? = some ⟨c, u, y⟩) (hij : i ≠ j) : b ≠ c := pair_ne h.nd i j _ _ ei ej hij
theorem pair_set {L : List Ob} {i : Nat} {o : Ob} (hn : L.Pairwise fun o o' => o.b ≠ o'.b) (e : L[i]? = some o) (o' : Ob) (hb : o'.b = o.b) : (L.set i o').Pairwise fun o o' => o.b ≠ o'.b := by
  induction L generalizing i with
  | nil => simp at e
  | cons x l ih =>
    rw [List.pairwise_cons] at hn
    cases i with
    | zero =>
      obtain rfl : x = o := by simpa using e
      rw [List.set_cons_zero, List.pairwise_cons]
      exact ⟨fun y hy => by rw [hb]; exact hn.1 y hy, hn.2⟩
    | succ i =>
      have e' : l[i]? = some o := by simpa using e
      rw [List.set_cons_succ, List.pairwise_cons]
      refine ⟨fun y hy => ?_, ih hn.2 e'⟩
      rcases List.mem_or_eq_of_mem_set hy with hy | rfl
      · exact hn.1 y hy
      · rw [hb]; exact hn.1 o (List.mem_of_getElem? e')
theorem other_of {L : List Ob} {i : Nat} {o x : Ob} (hn : L.Pairwise fun o o' => o.b ≠ o'.b) (e : L[i]? = some o) (o' : Ob) (hx : x ∈ L.set i o') : x = o' ∨ (x ∈ L ∧ x.b ≠ o.b) := by
  induction L generalizing i with
  | nil => simp at e
  | cons y l ih =>
    rw [List.pairwise_cons] at hn
    cases i with
    | zero =>
      obtain rfl : y = o := by simpa using e
      rw [List.set_cons_zero] at hx
      rcases List.mem_cons.1 hx with rfl | hx
      · exact .inl rfl
      · exact .inr ⟨List.mem_cons_of_mem _ hx, fun e => hn.1 x hx e.symm⟩
    | succ i =>
      have e' : l[i]? = some o := by simpa using e
      rw [List.set_cons_succ] at hx
      rcases List.mem_cons.1 hx with rfl | hx
      · exact .inr ⟨List.mem_cons_self .., hn.1 o (List.mem_of_getElem? e')⟩
      · rcases ih hn.2 e' hx with h | h
        · exact .inl h
        · exact .inr ⟨List.mem_cons_of_mem _ h.1, h.2⟩
/-- an object turned, the others as they were -/
theorem Fr.turn {w W W' : World} {L : List Ob} (h : Fr w L W) (i : Nat) {o : Ob} (e : L[i]? = some o) (cs : List Value) (hn : Ob.In ⟨o.b, o.t, cs⟩ W') (ho : ∀ k, k ≠ o.b → W'.heap[k]? = W.heap[k]?) (hos : W'.os = W.os) (ht : W'.tape = W.tape) (hout : W'.output = W.output) (hs : W.heap.size ≤ W'.heap.size) :
    Fr w (L.set i ⟨o.b, o.t, cs⟩) W' := by
  have hm := List.mem_of_getElem? e
  refine ⟨⟨hos.trans h.old.os, ht.trans h.old.tape, hout.trans h.old.output, Nat.le_trans h.old.size hs, fun k hk => (ho k (by have := h.new o hm; omega)).trans (h.old.block k hk)⟩, fun x hx => ?_, fun x hx => ?_, pair_set h.nd e _ rfl⟩
  · rcases other_of h.nd e _ hx with rfl | ⟨hx, hb⟩
    · exact hn
    · exact (ho x.b hb).trans (h.obs x hx)
  · rcases other_of h.nd e _ hx with rfl | ⟨hx, hb⟩
    · exact h.new o hm
    · exact h.new x hx
theorem Fr.set {w W : World} {L : List Ob} (h : Fr w L W) (i : Nat) {o : Ob} (e : L[i]? = some o) (k : Nat) (v : Value) : Fr w (L.set i ⟨o.b, o.t, o.cs.set k v⟩) (W.setCell ⟨o.b, k, none⟩ v) :=
  h.turn i e _ ((h.at i e).set k v) (fun j hj => Below.heap_setCell _ _ _ _ hj) rfl rfl rfl (by simp [World.setCell])
theorem Fr.row {w W : World} {L : List Ob} (h : Fr w L W) (i : Nat) {o : Ob} (e : L[i]? = some o) (cs : List Value) : Fr w (L.set i ⟨o.b, o.t, cs⟩) (W.setRow o.b cs.toArray) :=
  h.turn i e _ (setRow_heap _ _ _ _ _ _ (h.at i e)) (fun j hj => setRow_other _ _ _ _ hj) rfl rfl rfl (by simp [World.setRow])

/-- the same, and choices at block C -/
structure St (w : World) (C : Nat) (L : List Ob) (W : World) : Prop where
  fr : Fr w L W
  codes : CodesOk W C
  le : w.heap.size ≤ C
  ne : ∀ o ∈ L, o.b ≠ C
theorem St.old {w W : World} {C : Nat} {L : List Ob} (h : St w C L W) : Below w.heap.size w W := h.fr.old
theorem St.at {w W : World} {C : Nat} {L : List Ob} (h : St w C L W) (i : Nat) {o : Ob} (e : L[i]? = some o) : o.In W := h.fr.at i e
theorem St.get {w W : World} {C : Nat} {L : List Ob} (h : St w C L W) (i : Nat) {b : Nat} {t : TypeId} {cs : List Value} (e : L[i]? = some ⟨b, t, cs⟩) : W.heap[b]? = some (.cells cs.toArray t (0, 0)) := h.fr.at i e
theorem St.drew {w W : World} {C : Nat} {L : List Ob} (h : St w C L W) : St w C L W.drew := ⟨h.fr.drew, h.codes.drew, h.le, h.ne⟩
theorem St.drewN {w W : World} {C : Nat} {L : List Ob} (h : St w C L W) (q : Nat) : St w C L (W.drewN q) := ⟨h.fr.drewN q, h.codes.drewN q, h.le, h.ne⟩
theorem St.calls {w W W' : World} {C : Nat} {L : List Ob} (h : St w C L W) (hb : Below W.heap.size W W') : St w C L W' := ⟨h.fr.calls hb, h.codes.below hb h.codes.lt, h.le, h.ne⟩
theorem St.draws {w W W' : World} {C : Nat} {L : List Ob} (h : St w C L W) (hb : Besides C W W') (hc : CodesOk W' C) : St w C L W' := ⟨h.fr.besides hb h.le h.ne, hc, h.le, h.ne⟩
theorem St.put {w W : World} {C : Nat} {L : List Ob} (h : St w C L W) (t : TypeId) (cs : List Value) : St w C (L ++ [⟨W.heap.size, t, cs⟩]) (W.alloc (.cells cs.toArray t)) :=
  ⟨h.fr.put t cs, h.codes.below ((Below.refl _ _).alloc (Nat.le_refl _) _) h.codes.lt, h.le, fun o ho => by
    rcases List.mem_append.1 ho with ho | ho
    · exact h.ne o ho
    · obtain rfl := List.mem_singleton.1 ho
      have := h.codes.lt
      show W.heap.size ≠ C
      omega⟩
theorem ne_set {L : List Ob} {i : Nat} {o o' : Ob} {C : Nat} (h : ∀ x ∈ L, x.b ≠ C) (e : L[i]? = some o) (hb : o'.b = o.b) : ∀ x ∈ L.set i o', x.b ≠ C := fun x hx => by
  rcases List.mem_or_eq_of_mem_set hx with hx | rfl
  · exact h x hx
  · rw [hb]; exact h o (List.mem_of_getElem? e)
theorem St.set {w W : World} {C : Nat} {L : List Ob} (h : St w C L W) (i : Nat) {o : Ob} (e : L[i]? = some o) (hC : C < o.b) (k : Nat) (v : Value) : St w C (L.set i ⟨o.b, o.t, o.cs.set k v⟩) (W.setCell ⟨o.b, k, none⟩ v) :=
  ⟨h.fr.set i e k v, CodesOk.setOwn h.codes hC k v, h.le, ne_set h.ne e rfl⟩
theorem St.row {w W : World} {C : Nat} {L : List Ob} (h : St w C L W) (i : Nat) {o : Ob} (e : L[i]? = some o) (hC : C < o.b) (cs : List Value) : St w C (L.set i ⟨o.b, o.t, cs⟩) (W.setRow o.b cs.toArray) :=
  ⟨h.fr.row i e cs, h.codes.below (below_setRow (Below.refl o.b W) (Nat.le_refl _) _) hC, h.le, ne_set h.ne e rfl⟩
/-- the choices begin: behind what was made before -/
theorem St.begin {w W W' : World} {L : List Ob} (h : Fr w L W) (hb : Below W.heap.size W W') (hc : CodesOk W' W.heap.size) : St w W.heap.size L W' :=
  ⟨h.calls hb, hc, h.old.size, fun o ho => by have := (h.obs o ho).lt; omega⟩

/-- within a function that is handed choices: all but those is as it was, and these objects are new -/
structure Dr (w : World) (C : Nat) (L : List Ob) (W : World) : Prop where
  bes : Besides C w W
  codes : CodesOk W C
  lt : C < w.heap.size
  obs : ∀ o ∈ L, o.In W
  new : ∀ o ∈ L, w.heap.size ≤ o.b
  nd : L.Pairwise fun o o' => o.b ≠ o'.b
theorem Dr.start {w : World} {C : Nat} (h : CodesOk w C) : Dr w C [] w := ⟨Besides.refl _ _, h, h.lt, by simp, by simp, .nil⟩
theorem Dr.get {w W : World} {C : Nat} {L : List Ob} (h : Dr w C L W) (i : Nat) {b : Nat} {t : TypeId} {cs : List Value} (e : L[i]? = some ⟨b, t, cs⟩) : W.heap[b]? = some (.cells cs.toArray t (0, 0)) := h.obs _ (List.mem_of_getElem? e)
theorem Dr.at {w W : World} {C : Nat} {L : List Ob} (h : Dr w C L W) (i : Nat) {o : Ob} (e : L[i]? = some o) : o.In W := h.obs _ (List.mem_of_getElem? e)
theorem Dr.draws {w W W' : World} {C : Nat} {L : List Ob} (h : Dr w C L W) (hb : Besides C W W') (hc : CodesOk W' C) : Dr w C L W' :=
  ⟨h.bes.trans hb, hc, h.lt, fun o ho => (h.obs o ho).besides hb (by have := h.new o ho; have := h.lt; omega), h.new, h.nd⟩
theorem Dr.put {w W : World} {C : Nat} {L : List Ob} (h : Dr w C L W) (t : TypeId) (cs : List Value) : Dr w C (L ++ [⟨W.heap.size, t, cs⟩]) (W.alloc (.cells cs.toArray t)) := by
  refine ⟨h.bes.alloc _, h.codes.below ((Below.refl _ _).alloc (Nat.le_refl _) _) h.codes.lt, h.lt, fun o ho => ?_, fun o ho => ?_, ?_⟩
  · rcases List.mem_append.1 ho with ho | ho
    · exact (h.obs o ho).calls ((Below.refl _ _).alloc (Nat.le_refl _) _)
    · obtain rfl := List.mem_singleton.1 ho
      exact heap_alloc_last W _
  · rcases List.mem_append.1 ho with ho | ho
    · exact h.new o ho
    · obtain rfl := List.mem_singleton.1 ho
      exact h.bes.size
  · rw [List.pairwise_append]
    refine ⟨h.nd, List.pairwise_singleton _ _, fun a ha b hb => ?_⟩
    obtain rfl := List.mem_singleton.1 hb
    have := (h.obs a ha).lt
    show a.b ≠ W.heap.size
    omega
theorem Dr.turn {w W W' : World} {C : Nat} {L : List Ob} (h : Dr w C L W) (i : Nat) {o : Ob} (e : L[i]? = some o) (cs : List Value) (hn : Ob.In ⟨o.b, o.t, cs⟩ W') (hb : Below o.b W W') (ho : ∀ k, k ≠ o.b → W'.heap[k]? = W.heap[k]?) : Dr w C (L.set i ⟨o.b, o.t, cs⟩) W' := by
  have hm := List.mem_of_getElem? e
  have hnw := h.new o hm
  have hlt := h.lt
  refine ⟨⟨hb.os.trans h.bes.os, hb.tape.trans h.bes.tape, hb.output.trans h.bes.output, Nat.le_trans h.bes.size hb.size, fun k hk hC => (ho k (by omega)).trans (h.bes.block k hk hC), fun hC => (World.cell?_of_block (a := ⟨C, 0, none⟩) (ho C (by omega))).trans (h.bes.head hC)⟩, h.codes.below hb (by omega), hlt, fun x hx => ?_, fun x hx => ?_, pair_set h.nd e _ rfl⟩
  · rcases other_of h.nd e _ hx with rfl | ⟨hx, hb⟩
    · exact hn
    · exact (ho x.b hb).trans (h.obs x hx)
  · rcases other_of h.nd e _ hx with rfl | ⟨hx, hb⟩
    · exact hnw
    · exact h.new x hx
theorem Dr.set {w W : World} {C : Nat} {L : List Ob} (h : Dr w C L W) (i : Nat) {o : Ob} (e : L[i]? = some o) (k : Nat) (v : Value) : Dr w C (L.set i ⟨o.b, o.t, o.cs.set k v⟩) (W.setCell ⟨o.b, k, none⟩ v) :=
  h.turn i e _ ((h.at i e).set k v) ((Below.refl _ _).setCell (p := ⟨o.b, k, none⟩) (Nat.le_refl _) v) (fun _ hj => Below.heap_setCell _ _ _ _ hj)
theorem Dr.row {w W : World} {C : Nat} {L : List Ob} (h : Dr w C L W) (i : Nat) {o : Ob} (e : L[i]? = some o) (cs : List Value) : Dr w C (L.set i ⟨o.b, o.t, cs⟩) (W.setRow o.b cs.toArray) :=
  h.turn i e _ (setRow_heap _ _ _ _ _ _ (h.at i e)) (below_setRow (Below.refl _ _) (Nat.le_refl _) _) (fun _ hj => setRow_other _ _ _ _ hj)

/-- the operations on whole objects, written out: where another one stands they fail at once -/
theorem wpList_store_ob (t : TypeId) (x : Operand) {y : Operand} {ops : Array Oper} {rest : List Oper} {a : Act} {w : World} {Q : Exit → Act → World → Prop} {ty : TypeId} {pos : String} {aft : Array Edge}
    (b : Nat) (cs zs : List Value) (t0 : TypeId) (hx : a.eval x = .pointer (some ⟨b, 0, none⟩)) (hy : a.eval y = .agg cs.toArray) (hg : w.heap[b]? = some (.cells zs.toArray t0 (0, 0)))
    (hi : (Try.prog.info? t).map (·.size) = some cs.length) (hl : zs.length = cs.length) (h1 : cs.toArray.all (·.oneCell') = true)
    (h : wpList Try.prog ops Q rest a (w.setRow b cs.toArray)) :
    wpList Try.prog ops Q ({ dst := none, op := .store t x y, type := ty, pos := pos, after := aft, guard := none } :: rest) a w :=
  wpList_store_row rfl t x y rfl b cs.toArray hx hy t0 zs.toArray hg (by rw [List.size_toArray]; exact hi) (by rw [List.size_toArray, List.size_toArray]; exact hl) h1 h
theorem wpList_load_ob (t : TypeId) (x : Operand) {ops : Array Oper} {rest : List Oper} {a : Act} {w : World} {Q : Exit → Act → World → Prop} {d : Option Tmp} {ty : TypeId} {pos : String} {aft : Array Edge}
    (b : Nat) (cs : List Value) (t0 : TypeId) {ds : TypeDesc} (hu : Try.prog.underlying t = some ds) (hx : a.eval x = .pointer (some ⟨b, 0, none⟩)) (hg : w.heap[b]? = some (.cells cs.toArray t0 (0, 0)))
    (hd : ds.isRow = true) (hi : (Try.prog.info? t).map (·.size) = some cs.length)
    (h : wpList Try.prog ops Q rest (a.put d (.agg cs.toArray)) w) :
    wpList Try.prog ops Q ({ dst := d, op := .load t x, type := ty, pos := pos, after := aft, guard := none } :: rest) a w :=
  wpList_load_row rfl t x rfl b hx t0 cs.toArray (0, 0) ds hg hu (by cases ds <;> simp_all) (by rw [List.size_toArray]; exact hi) h
theorem wpList_load_row_g {ops : Array Oper} {rest : List Oper} {o : Oper} {a : Act} {w : World} {Q : Exit → Act → World → Prop} (hw : Region.wanted o (yielded ops a.tmps) = true) (ty : TypeId) (x : Operand) (ho : o.op = .load ty x)
    (g : Nat) (hx : a.eval x = .pointer (some ⟨g, 0, none⟩)) (t : TypeId) (cs : Array Value) (fr : Nat × Nat) (d : TypeDesc) (hg : w.heap[g]? = some (.cells cs t fr))
    (hu : Try.prog.underlying ty = some d) (hd : d.isRow = true) (hi : (Try.prog.info? ty).map (·.size) = some cs.size)
    (h : wpList Try.prog ops Q rest (a.put o.dst (.agg cs)) w) : wpList Try.prog ops Q (o :: rest) a w :=
  wpList_step fun K hK => by
    rw [if_pos hw]
    exact wp_load_row ty x ho g hx t cs fr d hg hu (by cases d <;> simp_all) hi (hK _ _ h)
theorem wpList_load_ob_w (t : TypeId) (x : Operand) {ops : Array Oper} {rest : List Oper} {a : Act} {w : World} {Q : Exit → Act → World → Prop} {d : Option Tmp} {ty : TypeId} {pos : String} {aft : Array Edge} {gd : Nat × Bool}
    (b : Nat) (cs : List Value) (t0 : TypeId) {ds : TypeDesc} (hu : Try.prog.underlying t = some ds) (hw : Region.wanted { dst := d, op := .load t x, type := ty, pos := pos, after := aft, guard := some gd } (yielded ops a.tmps) = true) (hx : a.eval x = .pointer (some ⟨b, 0, none⟩)) (hg : w.heap[b]? = some (.cells cs.toArray t0 (0, 0)))
    (hd : ds.isRow = true) (hi : (Try.prog.info? t).map (·.size) = some cs.length)
    (h : wpList Try.prog ops Q rest (a.put d (.agg cs.toArray)) w) :
    wpList Try.prog ops Q ({ dst := d, op := .load t x, type := ty, pos := pos, after := aft, guard := some gd } :: rest) a w :=
  wpList_load_row_g hw t x rfl b hx t0 cs.toArray (0, 0) ds hg hu hd (by rw [List.size_toArray]; exact hi) h
theorem wpList_load_at (t : TypeId) (x : Operand) {ops : Array Oper} {rest : List Oper} {a : Act} {w : World} {Q : Exit → Act → World → Prop} {d : Option Tmp} {ty : TypeId} {pos : String} {aft : Array Edge}
    (b o : Nat) (cs : List Value) {ds : TypeDesc} (hu : Try.prog.underlying t = some ds) (hx : a.eval x = .pointer (some ⟨b, o, none⟩)) (hg : w.rangeAt b o cs)
    (hd : ds.isRow = true) (hi : (Try.prog.info? t).map (·.size) = some cs.length)
    (h : wpList Try.prog ops Q rest (a.put d (.agg cs.toArray)) w) :
    wpList Try.prog ops Q ({ dst := d, op := .load t x, type := ty, pos := pos, after := aft, guard := none } :: rest) a w :=
  wpList_load_mid rfl t x rfl b o hx cs ds hg hu hd hi h
/-- an object and a word, as the results -/
theorem results_ob_tmp {fn : Func} {p u : Tmp} {t : TypeId} (h : fn.results = #[.cell p t, .tmp u]) (tmps : Array Value) (w : World) (g : Nat) (cs : List Value) (t0 : TypeId) (ds : TypeDesc)
    (hp : tmps.getD p undef = .pointer (some ⟨g, 0, none⟩)) (hg : w.heap[g]? = some (.cells cs.toArray t0 (0, 0))) (hu : Try.prog.underlying t = some ds) (hd : ds.isRow = true) (hi : (Try.prog.info? t).map (·.size) = some cs.length) :
    (results fn tmps).run Try.prog w = .ok (.tuple #[.agg cs.toArray, tmps.getD u undef]) w := by
  rw [results_cell_tmp h, hp]
  simp [asAddr, run_loadVar_row w g t0 t cs.toArray (0, 0) ds hg hu (by cases ds <;> simp_all) (by rw [List.size_toArray]; exact hi), Result.andThen]
theorem results_ob {fn : Func} {p : Tmp} {t : TypeId} (h : fn.results = #[.cell p t]) (tmps : Array Value) (w : World) (g : Nat) (cs : List Value) (t0 : TypeId) (ds : TypeDesc)
    (hp : tmps.getD p undef = .pointer (some ⟨g, 0, none⟩)) (hg : w.heap[g]? = some (.cells cs.toArray t0 (0, 0))) (hu : Try.prog.underlying t = some ds) (hd : ds.isRow = true) (hi : (Try.prog.info? t).map (·.size) = some cs.length) :
    (results fn tmps).run Try.prog w = .ok (.agg cs.toArray) w :=
  results_cell_row h tmps w g t0 cs.toArray (0, 0) ds hp hg hu (by cases ds <;> simp_all) (by rw [List.size_toArray]; exact hi)
/-- an object is made -/
theorem wp_alloc_ob {o : Oper} {a : Act} {w : World} {K : Act → World → Prop} {Q : Exit → Act → World → Prop} (t : TypeId) (cs : List Value) (ho : o.op = .alloc t)
    (hr : ∀ W, Sem.run Try.prog (Instr.alloc t true (.tuple #[])) W = .ok (.pointer (some ⟨W.heap.size, 0, none⟩)) (W.alloc (.cells cs.toArray t)))
    (h : K (a.put o.dst (.pointer (some ⟨w.heap.size, 0, none⟩))) (w.alloc (.cells cs.toArray t))) : o.wp Try.prog a w K Q := by
  unfold Oper.wp execOp
  simp only [ho, Sem.run_bind, hr w, Result.andThen_ok, Sem.run_pure]
  exact h
theorem wpList_alloc_ob (t : TypeId) (cs : List Value) {ops : Array Oper} {rest : List Oper} {a : Act} {w : World} {Q : Exit → Act → World → Prop} {d : Option Tmp} {ty : TypeId} {pos : String} {aft : Array Edge}
    (hr : ∀ W, Sem.run Try.prog (Instr.alloc t true (.tuple #[])) W = .ok (.pointer (some ⟨W.heap.size, 0, none⟩)) (W.alloc (.cells cs.toArray t)))
    (h : wpList Try.prog ops Q rest (a.put d (.pointer (some ⟨w.heap.size, 0, none⟩))) (w.alloc (.cells cs.toArray t))) :
    wpList Try.prog ops Q ({ dst := d, op := .alloc t, type := ty, pos := pos, after := aft, guard := none } :: rest) a w :=
  wpList_plain rfl fun _ hK => by
    unfold Oper.wp execOp
    have := hr w
    simp only [Sem.run_bind, this, Result.andThen_ok, Sem.run_pure]
    exact hK _ _ h
theorem wp_store_ob {o : Oper} {a : Act} {w : World} {K : Act → World → Prop} {Q : Exit → Act → World → Prop} (t : TypeId) (x y : Operand) (b : Nat) (cs zs : List Value) (t0 : TypeId) (ho : o.op = .store t x y) (hd : o.dst = none) (hx : a.eval x = .pointer (some ⟨b, 0, none⟩)) (hy : a.eval y = .agg cs.toArray) (hg : w.heap[b]? = some (.cells zs.toArray t0 (0, 0)))
    (hi : (Try.prog.info? t).map (·.size) = some cs.length) (hl : zs.length = cs.length) (h1 : cs.toArray.all (·.oneCell') = true)
    (h : K a (w.setRow b cs.toArray)) : o.wp Try.prog a w K Q :=
  wp_store_row t x y ho b cs.toArray hx hy t0 zs.toArray hg (by rw [List.size_toArray]; exact hi) (by rw [List.size_toArray, List.size_toArray]; exact hl) h1 (by rw [hd]; exact h)
/-- these objects lie there -/
def Obs (L : List Ob) (W : World) : Prop := ∀ o ∈ L, o.In W
theorem Obs.whole {L : List Ob} {W : World} (h : Obs L W) (i : Nat) {b : Nat} {t : TypeId} {cs : List Value} (e : L[i]? = some ⟨b, t, cs⟩) : W.rangeAt b 0 cs := (h _ (List.mem_of_getElem? e)).whole
theorem Obs.get {L : List Ob} {W : World} (h : Obs L W) (i : Nat) {b : Nat} {t : TypeId} {cs : List Value} (e : L[i]? = some ⟨b, t, cs⟩) : W.heap[b]? = some (.cells cs.toArray t (0, 0)) := h _ (List.mem_of_getElem? e)
theorem Obs.at {L : List Ob} {W : World} (h : Obs L W) (i k : Nat) {b : Nat} {t : TypeId} {cs : List Value} {v : Value} (e : L[i]? = some ⟨b, t, cs⟩) (hv : cs[k]? = some v) : W.cell? ⟨b, k, none⟩ = some v := (h _ (List.mem_of_getElem? e)).at k hv
theorem Obs.init {L M : List Ob} {W : World} (h : Obs (L ++ M) W) : Obs L W := fun o ho => h o (List.mem_append_left _ ho)
theorem Fr.all {w W : World} {L : List Ob} (h : Fr w L W) : Obs L W := h.obs
theorem St.all {w W : World} {C : Nat} {L : List Ob} (h : St w C L W) : Obs L W := h.fr.obs
/-- a value is built -/
theorem wpList_build_v (t : TypeId) {ps : Array (Nat × Operand)} {ops : Array Oper} {rest : List Oper} {a : Act} {w : World} {Q : Exit → Act → World → Prop} {d : Option Tmp} {ty : TypeId} {pos : String} {aft : Array Edge}
    (v : Value) (hb : ∀ W, Sem.run Try.prog (Instr.build t (ps.map fun x => (x.1, a.eval x.2))) W = .ok v W)
    (h : wpList Try.prog ops Q rest (a.put d v) w) :
    wpList Try.prog ops Q ({ dst := d, op := .build t ps, type := ty, pos := pos, after := aft, guard := none } :: rest) a w :=
  wpList_plain rfl fun K hK => by
    unfold Oper.wp execOp
    have := hb w
    simp only [Sem.run_bind, this, Result.andThen_ok, Sem.run_pure]
    exact hK _ _ h
theorem wpList_load_at_w (t : TypeId) (x : Operand) {ops : Array Oper} {rest : List Oper} {a : Act} {w : World} {Q : Exit → Act → World → Prop} {d : Option Tmp} {ty : TypeId} {pos : String} {aft : Array Edge} {gd : Nat × Bool}
    (b o : Nat) (cs : List Value) {ds : TypeDesc} (hu : Try.prog.underlying t = some ds) (hw : Region.wanted { dst := d, op := .load t x, type := ty, pos := pos, after := aft, guard := some gd } (yielded ops a.tmps) = true) (hx : a.eval x = .pointer (some ⟨b, o, none⟩)) (hg : w.rangeAt b o cs)
    (hd : ds.isRow = true) (hi : (Try.prog.info? t).map (·.size) = some cs.length)
    (h : wpList Try.prog ops Q rest (a.put d (.agg cs.toArray)) w) :
    wpList Try.prog ops Q ({ dst := d, op := .load t x, type := ty, pos := pos, after := aft, guard := some gd } :: rest) a w :=
  wpList_step fun K hK => by
    rw [if_pos hw]
    exact wp_load_mid t x rfl b o hx cs ds hg hu hd hi (hK _ _ h)
/-- two values of one type are compared by their words -/
noncomputable def sameV {α : Type} (a b : α) : Bool := @decide (a = b) (Classical.propDecidable _)
theorem sameV_iff {α : Type} {a b : α} : sameV a b = true ↔ a = b := by unfold sameV; exact @decide_eq_true_iff (a = b) (Classical.propDecidable _)
theorem sameV_self {α : Type} (a : α) : sameV a a = true := sameV_iff.2 rfl
theorem sameV_comm {α : Type} (a b : α) : sameV a b = sameV b a := by rw [Bool.eq_iff_iff, sameV_iff, sameV_iff]; exact eq_comm
theorem equal_lits {α : Type} (t : TypeId) (a b : α) (x y : List Value) (la lb : List Lit) (hd : Try.prog.keyTypeAt 4 t = true) (fx : (Value.agg x.toArray).formed Try.prog t = true) (fy : (Value.agg y.toArray).formed Try.prog t = true) (lx : Try.prog.keyLits 4 t x = some la) (ly : Try.prog.keyLits 4 t y = some lb) (hi : la = lb ↔ a = b) (w : World) :
    Sem.run Try.prog (Op.equal t (.agg x.toArray) (.agg y.toArray)) w = .ok (sameV a b) w := by
  obtain ⟨r, hr, hiff⟩ := run_equalIn_deep (P := Try.prog) 9996 4 t hd w 4 4 (.agg x.toArray) (.agg y.toArray) la lb fx fy lx ly
  have e : sameV a b = r := by rw [Bool.eq_iff_iff, hiff, sameV_iff]; exact hi.symm
  rw [e]
  exact hr
theorem run_eql {α : Type} {t : TypeId} {a b : α} {x y : List Value} (h : ∀ w, Sem.run Try.prog (Op.equal t (.agg x.toArray) (.agg y.toArray)) w = .ok (sameV a b) w) (w : World) :
    Sem.run Try.prog (binOp .eql t (.agg x.toArray) (.agg y.toArray)) w = .ok (.bool (sameV a b)) w := by
  simp only [binOp, Sem.run_bind, h, Result.andThen_ok, Sem.run_pure]
theorem run_neq {α : Type} {t : TypeId} {a b : α} {x y : List Value} (h : ∀ w, Sem.run Try.prog (Op.equal t (.agg x.toArray) (.agg y.toArray)) w = .ok (sameV a b) w) (w : World) :
    Sem.run Try.prog (binOp .neq t (.agg x.toArray) (.agg y.toArray)) w = .ok (.bool (!sameV a b)) w := by
  simp only [binOp, Sem.run_bind, h, Result.andThen_ok, Sem.run_pure]
end Go.Proofs.Ythcjkbhkidijoaa
/- what a walk keeps of memory: objects, slices of its own, choices; what was there is as it was -/
namespace Go.Proofs.Ythcjkbhkidijoaa
open Go.RowKit
set_option maxRecDepth 20000

/-- cells that are read: a block, a place in it, what lies there -/
abbrev Rng := Nat × Nat × List Value
def RdIn (W : World) (R : List Rng) : Prop := ∀ r ∈ R, r.1 < W.heap.size ∧ W.rangeAt r.1 r.2.1 r.2.2
theorem RdIn.keep {W W' : World} {R : List Rng} (h : RdIn W R) (hs : W.heap.size ≤ W'.heap.size) (hk : ∀ b ∈ R.map (·.1), W'.heap[b]? = W.heap[b]?) : RdIn W' R := fun r hr => by
  obtain ⟨h1, h2⟩ := h r hr
  refine ⟨Nat.lt_of_lt_of_le h1 hs, fun j u hu => ?_⟩
  rw [World.cell?_of_block (a := ⟨r.1, r.2.1 + j, none⟩) (hk r.1 (List.mem_map.2 ⟨r, hr, rfl⟩))]
  exact h2 j u hu
theorem RdIn.lt {W : World} {R : List Rng} (h : RdIn W R) {b : Nat} (hb : b ∈ R.map (·.1)) : b < W.heap.size := by
  obtain ⟨r, hr, rfl⟩ := List.mem_map.1 hb
  exact (h r hr).1
theorem RdIn.below {W W' : World} {R : List Rng} (h : RdIn W R) (hb : Below W.heap.size W W') : RdIn W' R := h.keep hb.size (fun b hb' => hb.block b (h.lt hb'))
theorem RdIn.sub {W : World} {R S : List Rng} (h : RdIn W R) (hs : ∀ r ∈ S, r ∈ R) : RdIn W S := fun r hr => h r (hs r hr)
theorem RdIn.append {W : World} {R S : List Rng} (h : RdIn W R) (k : RdIn W S) : RdIn W (R ++ S) := fun r hr => (List.mem_append.1 hr).elim (h r) (k r)
theorem RdIn.nil (W : World) : RdIn W [] := fun r hr => by cases hr
/-- a thing in new memory: an object; a slice of the walk's own; choices; and cells that are read, wherever they are -/
inductive Th where
  | ob (b : Nat) (t : TypeId) (cs : List Value)
  | sl (v : Value) (e : TypeId) (z n : Nat) (xs : List Value)
  | cd (C : Nat)
  | rd (R : List Rng)
/-- its block -/
def Th.blk : Th → Option Nat
  | .ob b _ _ => some b
  | .sl v _ _ _ _ => v.ownBlock
  | .cd C => some C
  | .rd _ => none
/-- the blocks that it reads -/
def Th.reads : Th → List Nat
  | .rd R => R.map (·.1)
  | _ => []
/-- it lies in W, in memory from B on -/
def Th.In (B : Nat) (W : World) : Th → Prop
  | .ob b t cs => B ≤ b ∧ W.heap[b]? = some (.cells cs.toArray t (0, 0))
  | .sl v e z n xs => W.ownsRow B e z v n xs
  | .cd C => B ≤ C ∧ CodesOk W C ∧ ∃ a len cap, W.cell? ⟨C, 0, none⟩ = some (.slice a len cap) ∧ (0 < len → ∀ b off, a = some ⟨b, off, none⟩ → b < B)
  | .rd R => RdIn W R
def Th.Apart (x y : Th) : Prop := (∀ b, x.blk = some b → y.blk ≠ some b ∧ b ∉ y.reads) ∧ (∀ b, y.blk = some b → b ∉ x.reads)
theorem Th.In.from {B : Nat} {W : World} {x : Th} (h : x.In B W) {b : Nat} (hb : x.blk = some b) : B ≤ b ∧ b < W.heap.size := by
  cases x with
  | ob c t cs =>
    obtain rfl : c = b := Option.some.inj hb
    exact ⟨h.1, (Array.getElem?_eq_some_iff.1 h.2).1⟩
  | sl v e z n xs => exact World.ownsRow.lt h b hb
  | cd C =>
    obtain rfl : C = b := Option.some.inj hb
    exact ⟨h.1, h.2.1.lt⟩
  | rd R => cases hb
theorem Th.In.reads_lt {B : Nat} {W : World} {x : Th} (h : x.In B W) {b : Nat} (hb : b ∈ x.reads) : b < W.heap.size := by
  cases x with
  | rd R => exact RdIn.lt h hb
  | _ => cases hb
theorem codes_keep {w w' : World} {C B : Nat} (h : Th.In B w (.cd C)) (hs : w.heap.size ≤ w'.heap.size) (hC : w'.heap[C]? = w.heap[C]?) (ho : ∀ k, k < B → w'.heap[k]? = w.heap[k]?) : Th.In B w' (.cd C) := by
  obtain ⟨hB, ⟨a, len, cap, i, h0, h1, h2, h3, h4, h5, h6, h7⟩, a', len', cap', h8, h9⟩ := h
  have cell : ∀ j, w'.cell? ⟨C, j, none⟩ = w.cell? ⟨C, j, none⟩ := fun j => World.cell?_of_block (a := ⟨C, j, none⟩) hC
  have e := h1.symm.trans h8
  simp only [Option.some.injEq, Value.slice.injEq] at e
  obtain ⟨rfl, rfl, rfl⟩ := e
  refine ⟨hB, ⟨a, len, cap, i, by omega, by rw [cell 0]; exact h1, by rw [cell 1]; exact h2, by rw [World.frozen?_of_block (a := ⟨C, 1, none⟩) hC]; exact h3, h4, h5, h6, fun hl => ?_⟩, a, len, cap, by rw [cell 0]; exact h8, h9⟩
  obtain ⟨b, off, ha, hbC, hz⟩ := h7 hl
  have hb := h9 hl b off ha
  exact ⟨b, off, ha, hbC, fun j hj => by rw [World.cell?_of_block (a := ⟨b, off + j, none⟩) (ho b hb)]; exact hz j hj⟩
theorem Th.In.keep {B : Nat} {W W' : World} {x : Th} (h : x.In B W) (hs : W.heap.size ≤ W'.heap.size) (hx : ∀ b, x.blk = some b → W'.heap[b]? = W.heap[b]?) (ho : ∀ k, k < B → W'.heap[k]? = W.heap[k]?) (hr : ∀ b ∈ x.reads, W'.heap[b]? = W.heap[b]?) : x.In B W' := by
  cases x with
  | ob c t cs => exact ⟨h.1, (hx c rfl).trans h.2⟩
  | sl v e z n xs =>
    refine ⟨h.1, ?_⟩
    rcases h.2 with h0 | ⟨g, cap, cur, hv, hB, hg, hr⟩
    · exact .inl h0
    · exact .inr ⟨g, cap, cur, hv, hB, (hx g (by rw [hv]; rfl)).trans hg, hr⟩
  | cd C => exact codes_keep h hs (hx C rfl) ho
  | rd R => exact RdIn.keep h hs hr
theorem Th.Apart.symm {x y : Th} (h : x.Apart y) : y.Apart x := ⟨fun b hy => ⟨fun hx => (h.1 b hx).1 hy, h.2 b hy⟩, fun b hx => (h.1 b hx).2⟩

structure Hp (w : World) (L : List Th) (W : World) : Prop where
  old : Below w.heap.size w W
  all : ∀ x ∈ L, x.In w.heap.size W
  nd : L.Pairwise Th.Apart
theorem Hp.start (w : World) : Hp w [] w := ⟨Below.refl _ _, by simp, .nil⟩
theorem Hp.in {w W : World} {L : List Th} (h : Hp w L W) (i : Nat) {x : Th} (e : L[i]? = some x) : x.In w.heap.size W := h.all _ (List.mem_of_getElem? e)
theorem Hp.get {w W : World} {L : List Th} (h : Hp w L W) (i : Nat) {b : Nat} {t : TypeId} {cs : List Value} (e : L[i]? = some (.ob b t cs)) : W.heap[b]? = some (.cells cs.toArray t (0, 0)) := (h.in i e).2
theorem Hp.at {w W : World} {L : List Th} (h : Hp w L W) (i : Nat) {b : Nat} {t : TypeId} {cs : List Value} (e : L[i]? = some (.ob b t cs)) (k : Nat) {v : Value} (hv : cs[k]? = some v) : W.cell? ⟨b, k, none⟩ = some v := by
  rw [cell_of_row W b k _ _ _ (h.get i e), List.getElem?_toArray]; exact hv
theorem Hp.frozen {w W : World} {L : List Th} (h : Hp w L W) (i : Nat) {b : Nat} {t : TypeId} {cs : List Value} (e : L[i]? = some (.ob b t cs)) (k : Nat) : W.frozen? ⟨b, k, none⟩ = false := frozen_of_row _ _ _ _ _ (h.get i e)
theorem Hp.codes {w W : World} {L : List Th} (h : Hp w L W) (i : Nat) {C : Nat} (e : L[i]? = some (.cd C)) : CodesOk W C := (h.in i e).2.1
theorem Hp.own {w W : World} {L : List Th} (h : Hp w L W) (i : Nat) {v : Value} {t : TypeId} {z n : Nat} {xs : List Value} (e : L[i]? = some (.sl v t z n xs)) : W.ownsRow w.heap.size t z v n xs := h.in i e
theorem Hp.lt {w W : World} {L : List Th} (h : Hp w L W) (i : Nat) {x : Th} {b : Nat} (e : L[i]? = some x) (hb : x.blk = some b) : w.heap.size ≤ b ∧ b < W.heap.size := (h.in i e).from hb
theorem apart_at {L : List Th} (hn : L.Pairwise Th.Apart) : ∀ (i j : Nat) (x y : Th), L[i]? = some x → L[j]? = some y → i ≠ j → x.Apart y := by
  induction L with
  | nil => intro i j x y hx; simp at hx
  | cons z l ih =>
    rw [List.pairwise_cons] at hn
    intro i j x y hx hy hij
    cases i with
    | zero =>
      cases j with
      | zero => exact absurd rfl hij
      | succ j =>
        obtain rfl : z = x := by simpa using hx
        exact hn.1 y (List.mem_of_getElem? (by simpa using hy))
    | succ i =>
      cases j with
      | zero =>
        obtain rfl : z = y := by simpa using hy
        exact (hn.1 x (List.mem_of_getElem? (by simpa using hx))).symm
      | succ j => exact ih hn.2 i j x y (by simpa using hx) (by simpa using hy) (by omega)
theorem Hp.ne {w W : World} {L : List Th} (h : Hp w L W) (i j : Nat) {x y : Th} {b c : Nat} (ei : L[i]? = some x) (ej : L[j]? = some y) (hij : i ≠ j) (hb : x.blk = some b) (hc : y.blk = some c) : b ≠ c := fun e => by
  subst e
  exact (apart_at h.nd i j x y ei ej hij).1 b hb |>.1 hc
theorem Hp.drew {w W : World} {L : List Th} (h : Hp w L W) : Hp w L W.drew := ⟨h.old.drew, fun x hx => (h.all x hx).keep (Nat.le_refl _) (fun _ _ => rfl) (fun _ _ => rfl) (fun _ _ => rfl), h.nd⟩
theorem Hp.drewN {w W : World} {L : List Th} (h : Hp w L W) (q : Nat) : Hp w L (W.drewN q) := ⟨⟨h.old.os, h.old.tape, h.old.output, h.old.size, h.old.block⟩, fun x hx => (h.all x hx).keep (Nat.le_refl _) (fun _ _ => rfl) (fun _ _ => rfl) (fun _ _ => rfl), h.nd⟩
theorem Hp.calls {w W W' : World} {L : List Th} (h : Hp w L W) (hb : Below W.heap.size W W') : Hp w L W' :=
  ⟨h.old.trans (hb.mono h.old.size), fun x hx => (h.all x hx).keep hb.size (fun b e => hb.block b ((h.all x hx).from e).2) (fun k hk => hb.block k (Nat.lt_of_lt_of_le hk h.old.size)) (fun b hbr => hb.block b ((h.all x hx).reads_lt hbr)), h.nd⟩
theorem mem_apart {L : List Th} (hn : L.Pairwise Th.Apart) {x z : Th} (hx : x ∈ L) (hz : z ∈ L) {b : Nat} (hb : x.blk = some b) (hr : b ∈ z.reads) : False := by
  induction L with
  | nil => cases hx
  | cons y l ih =>
    rw [List.pairwise_cons] at hn
    rcases List.mem_cons.1 hx with rfl | hx'
    · rcases List.mem_cons.1 hz with rfl | hz'
      · cases z <;> first | (cases hb; done) | (cases hr; done) | simp [Th.blk] at hb
      · exact ((hn.1 z hz').1 b hb).2 hr
    · rcases List.mem_cons.1 hz with rfl | hz'
      · exact (hn.1 x hx').2 b hb hr
      · exact ih hn.2 hx' hz'
theorem Hp.reads_apart {w W : World} {L : List Th} (h : Hp w L W) {x z : Th} (hx : x ∈ L) (hz : z ∈ L) {b : Nat} (hb : x.blk = some b) (hr : b ∈ z.reads) : False := mem_apart h.nd hx hz hb hr
theorem Hp.add {w W W' : World} {L : List Th} (h : Hp w L W) (hb : Below W.heap.size W W') (y : Th) (hy : y.In w.heap.size W') (hn : ∀ b, y.blk = some b → W.heap.size ≤ b) (hr : ∀ b ∈ y.reads, W.heap.size ≤ b ∨ ∃ z ∈ L, b ∈ z.reads) : Hp w (L ++ [y]) W' := by
  have h' := h.calls hb
  refine ⟨h'.old, fun x hx => ?_, ?_⟩
  · rcases List.mem_append.1 hx with hx | hx
    · exact h'.all x hx
    · obtain rfl := List.mem_singleton.1 hx
      exact hy
  · rw [List.pairwise_append]
    refine ⟨h.nd, List.pairwise_singleton _ _, fun a ha b hb => ?_⟩
    obtain rfl := List.mem_singleton.1 hb
    refine ⟨fun c hac => ⟨fun hbc => ?_, fun hbr => ?_⟩, fun c hbc har => ?_⟩
    · have h1 := ((h.all a ha).from hac).2
      have h2 := hn c hbc
      omega
    · have h1 := ((h.all a ha).from hac).2
      rcases hr c hbr with h2 | ⟨z, hz, hzr⟩
      · omega
      · exact h.reads_apart ha hz hac hzr
    · have h1 := (h.all a ha).reads_lt har
      have h2 := hn c hbc
      omega
/-- an object is made -/
theorem Hp.put {w W : World} {L : List Th} (h : Hp w L W) (t : TypeId) (cs : List Value) : Hp w (L ++ [.ob W.heap.size t cs]) (W.alloc (.cells cs.toArray t)) :=
  h.add ((Below.refl _ _).alloc (Nat.le_refl _) _) (.ob W.heap.size t cs) ⟨h.old.size, heap_alloc_last W _⟩ (fun b e => by obtain rfl : W.heap.size = b := Option.some.inj e; exact Nat.le_refl _) (fun b e => by cases e)
/-- choices begin -/
theorem Hp.begin {w W W' : World} {L : List Th} (h : Hp w L W) (hb : Below W.heap.size W W') (hc : CodesOk W' W.heap.size) (hl : ∃ a len cap, W'.cell? ⟨W.heap.size, 0, none⟩ = some (.slice a len cap) ∧ (0 < len → ∀ b off, a = some ⟨b, off, none⟩ → b < w.heap.size)) : Hp w (L ++ [.cd W.heap.size]) W' :=
  h.add hb (.cd W.heap.size) ⟨h.old.size, hc, hl⟩ (fun b e => by obtain rfl : W.heap.size = b := Option.some.inj e; exact Nat.le_refl _) (fun b e => by cases e)
/-- a slice of its own, nil as yet -/
theorem Hp.nil {w W : World} {L : List Th} (h : Hp w L W) (t : TypeId) (z : Nat) : Hp w (L ++ [.sl (.slice none 0 0) t z 0 []]) W :=
  h.add (Below.refl _ _) _ ⟨by simp, .inl ⟨rfl, rfl⟩⟩ (fun b e => by cases e) (fun b e => by cases e)
theorem pair_set' {L : List Th} {i : Nat} {x : Th} (hn : L.Pairwise Th.Apart) (e : L[i]? = some x) (y : Th) (hy : ∀ z ∈ L, z.Apart x → z.Apart y) : (L.set i y).Pairwise Th.Apart := by
  induction L generalizing i with
  | nil => simp at e
  | cons z l ih =>
    rw [List.pairwise_cons] at hn
    cases i with
    | zero =>
      obtain rfl : z = x := by simpa using e
      rw [List.set_cons_zero, List.pairwise_cons]
      exact ⟨fun u hu => (hy u (List.mem_cons_of_mem _ hu) (hn.1 u hu).symm).symm, hn.2⟩
    | succ i =>
      have e' : l[i]? = some x := by simpa using e
      rw [List.set_cons_succ, List.pairwise_cons]
      refine ⟨fun u hu => ?_, ih hn.2 e' (fun z hz => hy z (List.mem_cons_of_mem _ hz))⟩
      rcases List.mem_or_eq_of_mem_set hu with hu | rfl
      · exact hn.1 u hu
      · exact hy z (List.mem_cons_self ..) (hn.1 x (List.mem_of_getElem? e'))
theorem other_th {L : List Th} {i : Nat} {x z : Th} (hn : L.Pairwise Th.Apart) (e : L[i]? = some x) (y : Th) (hz : z ∈ L.set i y) : z = y ∨ (z ∈ L ∧ z.Apart x) := by
  induction L generalizing i with
  | nil => simp at e
  | cons u l ih =>
    rw [List.pairwise_cons] at hn
    cases i with
    | zero =>
      obtain rfl : u = x := by simpa using e
      rw [List.set_cons_zero] at hz
      rcases List.mem_cons.1 hz with rfl | hz
      · exact .inl rfl
      · exact .inr ⟨List.mem_cons_of_mem _ hz, (hn.1 z hz).symm⟩
    | succ i =>
      have e' : l[i]? = some x := by simpa using e
      rw [List.set_cons_succ] at hz
      rcases List.mem_cons.1 hz with rfl | hz
      · exact .inr ⟨List.mem_cons_self .., hn.1 x (List.mem_of_getElem? e')⟩
      · rcases ih hn.2 e' hz with h | h
        · exact .inl h
        · exact .inr ⟨List.mem_cons_of_mem _ h.1, h.2⟩
/-- a thing is turned; all that is not its block is as it was -/
theorem Hp.swap {w W W' : World} {L : List Th} (h : Hp w L W) (i : Nat) {x : Th} (e : L[i]? = some x) (y : Th) (hy : y.In w.heap.size W') (hn : ∀ b, y.blk = some b → x.blk = some b ∨ W.heap.size ≤ b) (hyr : y.reads = [])
    (hk : ∀ k, k < W.heap.size → x.blk ≠ some k → W'.heap[k]? = W.heap[k]?) (hos : W'.os = W.os) (ht : W'.tape = W.tape) (hout : W'.output = W.output) (hs : W.heap.size ≤ W'.heap.size) : Hp w (L.set i y) W' := by
  have hx := h.in i e
  have hold : ∀ k, k < w.heap.size → W'.heap[k]? = W.heap[k]? := fun k hk' => hk k (Nat.lt_of_lt_of_le hk' h.old.size) (fun e => by have := (hx.from e).1; omega)
  refine ⟨⟨hos.trans h.old.os, ht.trans h.old.tape, hout.trans h.old.output, Nat.le_trans h.old.size hs, fun k hk' => (hold k hk').trans (h.old.block k hk')⟩, fun z hz => ?_, pair_set' h.nd e y (fun z hz hzx => ?_)⟩
  · rcases other_th h.nd e y hz with rfl | ⟨hz, hzx⟩
    · exact hy
    · exact (h.all z hz).keep hs (fun b hb => hk b ((h.all z hz).from hb).2 (hzx.1 b hb).1) hold (fun b hb => hk b ((h.all z hz).reads_lt hb) (fun e => hzx.2 b e hb))
  · refine ⟨fun b hzb => ⟨fun hyb => ?_, fun hr => by rw [hyr] at hr; cases hr⟩, fun b hyb hzr => ?_⟩
    · rcases hn b hyb with hxb | hge
      · exact (hzx.1 b hzb).1 hxb
      · have := ((h.all z hz).from hzb).2
        omega
    · rcases hn b hyb with hxb | hge
      · exact hzx.2 b hxb hzr
      · have := (h.all z hz).reads_lt hzr
        omega
theorem Hp.draws {w W W' : World} {L : List Th} (h : Hp w L W) (i : Nat) {C : Nat} (e : L[i]? = some (.cd C)) (hb : Besides C W W') (hc : CodesOk W' C) : Hp w (L.set i (.cd C)) W' := by
  obtain ⟨hB, hok, a, len, cap, h8, h9⟩ := h.in i e
  exact h.swap i e (.cd C) ⟨hB, hc, a, len, cap, (hb.head hok.lt).trans h8, h9⟩ (fun b hb => .inl hb) rfl (fun k hk hne => hb.block k hk (fun e => hne (by rw [e]; rfl))) hb.os hb.tape hb.output hb.size
theorem Hp.set {w W : World} {L : List Th} (h : Hp w L W) (i : Nat) {b : Nat} {t : TypeId} {cs : List Value} (e : L[i]? = some (.ob b t cs)) (k : Nat) (v : Value) : Hp w (L.set i (.ob b t (cs.set k v))) (W.setCell ⟨b, k, none⟩ v) := by
  refine h.swap i e _ ⟨(h.in i e).1, ?_⟩ (fun b hb => .inl hb) rfl (fun j hj hne => Below.heap_setCell _ _ _ _ (fun e => hne (by rw [e]; rfl))) rfl rfl rfl (by simp [World.setCell])
  have := heap_setCell_same W b k _ _ v (h.get i e)
  rw [List.setIfInBounds_toArray] at this
  exact this
theorem Hp.row {w W : World} {L : List Th} (h : Hp w L W) (i : Nat) {b : Nat} {t : TypeId} {cs : List Value} (e : L[i]? = some (.ob b t cs)) (cs' : List Value) : Hp w (L.set i (.ob b t cs')) (W.setRow b cs'.toArray) :=
  h.swap i e _ ⟨(h.in i e).1, setRow_heap _ _ _ _ _ _ (h.get i e)⟩ (fun b hb => .inl hb) rfl (fun j hj hne => setRow_other _ _ _ _ (fun e => hne (by rw [e]; rfl))) rfl rfl rfl (by simp [World.setRow])
/-- a slice of its own has grown -/
theorem Hp.grown {w W W' : World} {L : List Th} (h : Hp w L W) (i : Nat) {v v' : Value} {t : TypeId} {z n m : Nat} {xs ys : List Value} (e : L[i]? = some (.sl v t z n xs)) (ho : W'.ownsRow w.heap.size t z v' m ys) (hg : W.grownBy W' v.ownBlock) (hb : v'.ownBlock = v.ownBlock ∨ v'.ownBlock = some W.heap.size) : Hp w (L.set i (.sl v' t z m ys)) W' := by
  refine h.swap i e _ ho (fun b hb' => ?_) rfl (fun k hk hne => hg.block k hk (fun e => hne e.symm)) hg.os hg.tape hg.output hg.size
  have hb'' : v'.ownBlock = some b := hb'
  rcases hb with hb | hb
  · exact .inl (hb.symm.trans hb'')
  · right
    rw [hb] at hb''
    exact Nat.le_of_eq (Option.some.inj hb'')
/-- what is not needed any more -/
theorem Hp.forget {w W : World} {L M : List Th} (h : Hp w (L ++ M) W) : Hp w L W := ⟨h.old, fun x hx => h.all x (List.mem_append_left _ hx), (List.pairwise_append.1 h.nd).1⟩
/-- some of the things alone -/
def Hold (B : Nat) (L : List Th) (W : World) : Prop := ∀ x ∈ L, x.In B W
theorem Hold.get {B : Nat} {L : List Th} {W : World} (h : Hold B L W) (i : Nat) {b : Nat} {t : TypeId} {cs : List Value} (e : L[i]? = some (.ob b t cs)) : W.heap[b]? = some (.cells cs.toArray t (0, 0)) := (h _ (List.mem_of_getElem? e)).2
theorem Hold.at {B : Nat} {L : List Th} {W : World} (h : Hold B L W) (i : Nat) {b : Nat} {t : TypeId} {cs : List Value} (e : L[i]? = some (.ob b t cs)) (k : Nat) {v : Value} (hv : cs[k]? = some v) : W.cell? ⟨b, k, none⟩ = some v := by
  rw [cell_of_row W b k _ _ _ (h.get i e), List.getElem?_toArray]; exact hv
theorem Hold.whole {B : Nat} {L : List Th} {W : World} (h : Hold B L W) (i : Nat) {b : Nat} {t : TypeId} {cs : List Value} (e : L[i]? = some (.ob b t cs)) : W.rangeAt b 0 cs := fun j v hv => by
  rw [Nat.zero_add]; exact h.at i e j hv
theorem Hp.pick {w W : World} {L M : List Th} (h : Hp w L W) (is : List Nat) (e : is.map (fun i => L[i]?) = M.map some) : Hold w.heap.size M W := fun x hx => by
  have : some x ∈ M.map some := List.mem_map.2 ⟨x, hx, rfl⟩
  rw [← e, List.mem_map] at this
  obtain ⟨i, _, hi⟩ := this
  exact h.in i hi
theorem Hp.pull {w W : World} {L M : List Th} (h : Hp w L W) (is : List Nat) (e : is.map (fun i => L[i]?) = M.map some) (hn : M.Pairwise Th.Apart) : Hp w M W := ⟨h.old, h.pick is e, hn⟩
theorem pull_nd {L M : List Th} (hn : L.Pairwise Th.Apart) (is : List Nat) (e : is.map (fun i => L[i]?) = M.map some) (hd : is.Pairwise (· ≠ ·)) : M.Pairwise Th.Apart := by
  induction is generalizing M with
  | nil =>
    cases M with
    | nil => exact .nil
    | cons m M => simp at e
  | cons i is ih =>
    cases M with
    | nil => simp at e
    | cons m M =>
      rw [List.map_cons, List.map_cons, List.cons.injEq] at e
      rw [List.pairwise_cons] at hd ⊢
      refine ⟨fun y hy => ?_, ih e.2 hd.2⟩
      have hy' : some y ∈ is.map (fun i => L[i]?) := by rw [e.2]; exact List.mem_map.2 ⟨y, hy, rfl⟩
      obtain ⟨j, hj, hje⟩ := List.mem_map.1 hy'
      exact apart_at hn i j m y e.1 hje (hd.1 j hj)
/-- part of a slice of its own -/
theorem own_range {B : Nat} {W : World} {t : TypeId} {z n : Nat} {v : Value} {xs : List Value} (h : W.ownsRow B t z v n xs) {g cap : Nat} (hv : v = .slice (some ⟨g, 0, none⟩) n cap) (k : Nat) (cs : List Value) (hc : ∀ j u, cs[j]? = some u → xs[k + j]? = some u) : W.rangeAt g k cs := fun j u hu => by
  rcases h.2 with ⟨h0, _⟩ | ⟨g', cap', cur, hv', _, hg, _, _, _, hx⟩
  · rw [hv] at h0; cases h0
  · rw [hv] at hv'
    have e : g = g' := by have := congrArg Value.ownBlock hv'; simpa [Value.ownBlock] using this
    subst e
    have hxs := hc j u hu
    rw [← hx] at hxs
    rw [cell_of_row W g (k + j) _ _ _ hg, ← Array.getElem?_toList]
    rw [List.getElem?_take] at hxs
    split at hxs
    · exact hxs
    · cases hxs
/-- what a type of elements is like -/
structure ElemIs (e : TypeId) (z bytes : Nat) : Prop where
  is : ∃ (inf : TypeInfo) (zv : Value), Try.prog.info? e = some inf ∧ inf.zero = some zv ∧ inf.size = z ∧ inf.bytes = bytes ∧ zv.cells.size = z
  pos : 0 < z
  small : z ≤ 65536
  room : bytes ≤ 65536
theorem Hp.append {w W : World} {L : List Th} (h : Hp w L W) (i : Nat) {v : Value} {e : TypeId} {z n : Nat} {xs : List Value} (ei : L[i]? = some (.sl v e z n xs)) (j : Nat) {b : Nat} {t' : TypeId} {ys : List Value} (ej : L[j]? = some (.ob b t' ys))
    (ts : TypeId) (ty : TypeId) {bytes : Nat} (ht : Try.prog.underlying ts = some (.slice e)) (he : ElemIs e z bytes) (m c : Nat) (hl : ys.length = m * z) (h1 : ∀ u ∈ ys, u.oneCell' = true) (hn : n + m ≤ 1048576) :
    ∃ v' W', (Builtin.append_ #[ts, ts] ty #[v, .slice (some ⟨b, 0, none⟩) m c]).run Try.prog W = .ok v' W' ∧ Hp w (L.set i (.sl v' e z (n + m) (xs ++ ys))) W' ∧ (v' = .slice none 0 0 ↔ v = .slice none 0 0 ∧ m = 0) := by
  obtain ⟨inf, zv, hi, hz, hsize, hby, hzs⟩ := he.is
  have hroom := he.room
  have hcell : ∀ q u, ys[q]? = some u → W.cell? ((⟨b, 0, none⟩ : Addr).add q) = some u := fun q u hu => by
    rw [Addr.add_mid, Nat.zero_add]
    exact h.at j ej q hu
  obtain ⟨v', W', hr, h2, h3, h4, h5⟩ := run_append_own_at (P := Try.prog) W w.heap.size ts ty e inf zv z bytes ht hi hz hsize hby hzs he.pos v n xs (h.own i ei) ⟨b, 0, none⟩ m c ys hl hcell h1 (by unfold maxLen; omega) (by
    have := Nat.mul_le_mul hn hroom
    omega) h.old.size
  exact ⟨v', W', hr, h.grown i ei h2 h3 h5, h4⟩
theorem wp_append_hp {o : Oper} {a : Act} {w W : World} {K : Act → World → Prop} {Q : Exit → Act → World → Prop} {L : List Th} (h : Hp w L W) (s x : Operand) (ts : TypeId) (ho : o.op = .call { callee := .builtin .append, args := #[s, x], argTypes := #[ts, ts] })
    (i : Nat) {v : Value} {e : TypeId} {z n : Nat} {xs : List Value} (ei : L[i]? = some (.sl v e z n xs)) (j : Nat) {b : Nat} {t' : TypeId} {ys : List Value} (ej : L[j]? = some (.ob b t' ys)) {bytes : Nat} (ht : Try.prog.underlying ts = some (.slice e)) (he : ElemIs e z bytes) (m c : Nat)
    (hs : a.eval s = v) (hx : a.eval x = .slice (some ⟨b, 0, none⟩) m c) (hl : ys.length = m * z) (h1 : ∀ u ∈ ys, u.oneCell' = true) (hn : n + m ≤ 1048576)
    (hk : ∀ v' W', Hp w (L.set i (.sl v' e z (n + m) (xs ++ ys))) W' → (v' = .slice none 0 0 ↔ v = .slice none 0 0 ∧ m = 0) → K (a.put o.dst v') W') : o.wp Try.prog a W K Q := by
  obtain ⟨v', W', hr, h2, h3⟩ := h.append i ei j ej ts o.type ht he m c hl h1 hn
  unfold Oper.wp execOp
  simp only [ho, resolve, invoke, builtin, Sem.run_bind, Sem.run_pure, Result.andThen_ok, List.map_toArray, List.map_cons, List.map_nil, hs, hx, hr]
  exact hk v' W' h2 h3
theorem wpList_append_hp {ops : Array Oper} {rest : List Oper} {a : Act} {w W : World} {Q : Exit → Act → World → Prop} {d : Option Tmp} {ty : TypeId} {pos : String} {aft : Array Edge} {L : List Th} (h : Hp w L W) (s x : Operand) (ts : TypeId)
    (i : Nat) {v : Value} {e : TypeId} {z n : Nat} {xs : List Value} (ei : L[i]? = some (.sl v e z n xs)) (j : Nat) {b : Nat} {t' : TypeId} {ys : List Value} (ej : L[j]? = some (.ob b t' ys)) {bytes : Nat} (ht : Try.prog.underlying ts = some (.slice e)) (he : ElemIs e z bytes) (m c : Nat)
    (hs : a.eval s = v) (hx : a.eval x = .slice (some ⟨b, 0, none⟩) m c) (hl : ys.length = m * z) (h1 : ∀ u ∈ ys, u.oneCell' = true) (hn : n + m ≤ 1048576)
    (hk : ∀ v' W', Hp w (L.set i (.sl v' e z (n + m) (xs ++ ys))) W' → (v' = .slice none 0 0 ↔ v = .slice none 0 0 ∧ m = 0) → wpList Try.prog ops Q rest (a.put d v') W') :
    wpList Try.prog ops Q ({ dst := d, op := .call { callee := .builtin .append, args := #[s, x], argTypes := #[ts, ts] }, type := ty, pos := pos, after := aft, guard := none } :: rest) a W :=
  wpList_plain rfl fun _ hK => wp_append_hp h s x ts rfl i ei j ej ht he m c hs hx hl h1 hn (fun v' W' p q => hK _ _ (hk v' W' p q))
/-- a slice of one, two or more elements, each a whole object -/
theorem run_build_obs {e ts : TypeId} {z bytes : Nat} (he : ElemIs e z bytes) (ht : Try.prog.underlying ts = some (.slice e)) (vs : List (List Value)) (hv : ∀ x ∈ vs, x.length = z) (h0 : 0 < vs.length) (h16 : vs.length ≤ 256) (W : World) :
    Sem.run Try.prog (Instr.buildSlice ts vs.length ((vs.zipIdx 0).map fun x => (x.2, Value.agg x.1.toArray)).toArray) W = .ok (.slice (some ⟨W.heap.size, 0, none⟩) vs.length vs.length) (W.alloc (.cells (vs.flatMap id).toArray e)) := by
  obtain ⟨inf, zv, hi, hz, hsize, hby, hzs⟩ := he.is
  have hp := he.pos
  have hsm := he.small
  refine run_buildSlice W ts e vs.length _ _ inf zv ht hi hz (by rw [hsize]; have := Nat.mul_le_mul h16 hsm; omega) (by rw [hsize]; exact Nat.ne_of_gt (Nat.mul_pos h0 hp)) ?_
  rw [hsize]
  have := Great.fill_whole (s := z) hp (vs.map fun x => Value.agg x.toArray) ((Array.range (vs.length * z)).map (zv.cells[· % zv.cells.size]!)) (by
    intro v hm
    obtain ⟨x, hx, rfl⟩ := List.mem_map.1 hm
    exact hv x hx) (by rw [Array.size_map, Array.size_range, List.length_map])
  rw [List.zipIdx_map, List.map_map] at this
  refine Eq.trans ?_ (this.trans ?_)
  · rfl
  · congr 1
    rw [List.flatMap_map]
    rfl
theorem wp_build_obs {o : Oper} {a : Act} {W : World} {K : Act → World → Prop} {Q : Exit → Act → World → Prop} {ts : TypeId} {n : Nat} {ps : Array (Nat × Operand)} (ho : o.op = .buildSlice ts n ps) {e : TypeId} {z bytes : Nat} (he : ElemIs e z bytes) (ht : Try.prog.underlying ts = some (.slice e)) (vs : List (List Value)) (hv : ∀ x ∈ vs, x.length = z) (h0 : 0 < vs.length) (h16 : vs.length ≤ 256) (hn : n = vs.length)
    (hp : ps.map (fun x => (x.1, a.eval x.2)) = ((vs.zipIdx 0).map fun x => (x.2, Value.agg x.1.toArray)).toArray)
    (h : K (a.put o.dst (.slice (some ⟨W.heap.size, 0, none⟩) n n)) (W.alloc (.cells (vs.flatMap id).toArray e))) : o.wp Try.prog a W K Q := by
  subst hn
  have hr := run_build_obs he ht vs hv h0 h16 W
  rw [← hp] at hr
  unfold Oper.wp execOp
  simp only [ho, Sem.run_bind, hr, Result.andThen_ok, Sem.run_pure]
  exact h
theorem wpList_build_obs (ts : TypeId) (n : Nat) {ps : Array (Nat × Operand)} {ops : Array Oper} {rest : List Oper} {a : Act} {W : World} {Q : Exit → Act → World → Prop} {d : Option Tmp} {ty : TypeId} {pos : String} {aft : Array Edge} {e : TypeId} {z bytes : Nat} (he : ElemIs e z bytes) (ht : Try.prog.underlying ts = some (.slice e)) (vs : List (List Value)) (hv : ∀ x ∈ vs, x.length = z) (h0 : 0 < vs.length) (h16 : vs.length ≤ 256) (hn : n = vs.length)
    (hp : ps.map (fun x => (x.1, a.eval x.2)) = ((vs.zipIdx 0).map fun x => (x.2, Value.agg x.1.toArray)).toArray)
    (h : wpList Try.prog ops Q rest (a.put d (.slice (some ⟨W.heap.size, 0, none⟩) n n)) (W.alloc (.cells (vs.flatMap id).toArray e))) :
    wpList Try.prog ops Q ({ dst := d, op := .buildSlice ts n ps, type := ty, pos := pos, after := aft, guard := none } :: rest) a W :=
  wpList_plain rfl fun _ hK => wp_build_obs rfl he ht vs hv h0 h16 hn hp (hK _ _ h)
/-- in a region that draws its order: a value that is built may be taken first -/
theorem yieldsIf_build_v {ops : Array Oper} {S : World → Prop} {op : Oper} {a : Act} (hw : Region.wanted op (yielded ops a.tmps) = true) (t : TypeId) (v : Value) {ps : Array (Nat × Operand)} (ho : op.op = .build t ps)
    (hb : ∀ W, Sem.run Try.prog (Instr.build t (ps.map fun x => (x.1, a.eval x.2))) W = .ok v W) : YieldsIf Try.prog ops S op v a :=
  .inl ⟨hw, fun W _ => by
    unfold execOp
    simp only [ho, Sem.run_bind, hb W, Result.andThen_ok, Sem.run_pure]⟩
theorem flat_mid {z : Nat} : ∀ (vs : List (List Value)) (_ : ∀ x ∈ vs, x.length = z) (k : Nat) (x : List Value), vs[k]? = some x → ∀ j v, x[j]? = some v → (vs.flatMap id)[k * z + j]? = some v
  | [], _, k, x, h, _, _, _ => by simp at h
  | y :: l, hz, 0, x, h, j, v, hv => by
    obtain rfl : y = x := by simpa using h
    rw [List.flatMap_cons, Nat.zero_mul, Nat.zero_add, List.getElem?_append_left (show j < (id y).length from (List.getElem?_eq_some_iff.1 hv).1)]
    exact hv
  | y :: l, hz, k + 1, x, h, j, v, hv => by
    have hy : (id y).length = z := hz y (List.mem_cons_self ..)
    rw [List.flatMap_cons, show (k + 1) * z + j = z + (k * z + j) from by rw [Nat.add_mul]; omega, List.getElem?_append_right (by omega), hy, Nat.add_sub_cancel_left]
    exact flat_mid l (fun u hu => hz u (List.mem_cons_of_mem _ hu)) k x (by simpa using h) j v hv
/-- a slice that a callee has made -/
theorem Hp.addown {w W W' : World} {L : List Th} (h : Hp w L W) (hb : Below W.heap.size W W') {v : Value} {t : TypeId} {z n : Nat} {xs : List Value} (ho : W'.ownsRow W.heap.size t z v n xs) : Hp w (L ++ [.sl v t z n xs]) W' := by
  refine h.add hb _ ⟨ho.1, ?_⟩ (fun b e => (ho.lt b e).1) (fun b e => by cases e)
  rcases ho.2 with h0 | ⟨g, cap, cur, hv, hB, hr⟩
  · exact .inl h0
  · exact .inr ⟨g, cap, cur, hv, Nat.le_trans h.old.size hB, hr⟩
/-- an array of whole objects is built -/
theorem run_build_arr {t e : TypeId} {n z : Nat} (hu : Try.prog.underlying t = some (.array n e)) (hs : (Try.prog.info? e).map (·.size) = some z) (hz : ((Try.prog.info? t).bind (·.zero)).map (·.cells.size) = some (n * z)) (hp : 0 < z) (vs : List (List Value)) (hv : ∀ x ∈ vs, x.length = z) (hn : vs.length = n) (W : World) :
    Sem.run Try.prog (Instr.build t ((vs.zipIdx 0).map fun x => (x.2, Value.agg x.1.toArray)).toArray) W = .ok (.agg (vs.flatMap id).toArray) W := by
  refine run_build W t _ _ ?_
  unfold Program.built
  cases hie : Try.prog.info? e with
  | none => simp [hie] at hs
  | some ie =>
    cases hit : Try.prog.info? t with
    | none => simp [hit] at hz
    | some it =>
      cases hzz : it.zero with
      | none => simp [hit, hzz] at hz
      | some zv =>
        simp only [hie, hit, hzz, Option.map_some, Option.some.injEq, Option.bind_some] at hs hz
        simp only [hu, hzz, hie]
        rw [hs]
        have := Great.fill_whole (s := z) hp (vs.map fun x => Value.agg x.toArray) zv.cells (by
          intro v hm
          obtain ⟨x, hx, rfl⟩ := List.mem_map.1 hm
          exact hv x hx) (by rw [List.length_map, hn, hz])
        rw [List.zipIdx_map, List.map_map] at this
        refine Eq.trans ?_ (this.trans ?_)
        · rfl
        · congr 1
          rw [List.flatMap_map]
          rfl
/-- part of an object -/
theorem Hold.mid {B : Nat} {L : List Th} {W : World} (h : Hold B L W) (i : Nat) {b : Nat} {t : TypeId} {cs : List Value} (e : L[i]? = some (.ob b t cs)) (k : Nat) (vs : List Value) (hv : ∀ j v, vs[j]? = some v → cs[k + j]? = some v) : W.rangeAt b k vs := fun j v hj => h.at i e (k + j) (hv j v hj)
theorem Hp.mid {w W : World} {L : List Th} (h : Hp w L W) (i : Nat) {b : Nat} {t : TypeId} {cs : List Value} (e : L[i]? = some (.ob b t cs)) (k : Nat) (vs : List Value) (hv : ∀ j v, vs[j]? = some v → cs[k + j]? = some v) : W.rangeAt b k vs := fun j v hj => h.at i e (k + j) (hv j v hj)
theorem Hp.reads {w W : World} {L : List Th} (h : Hp w L W) (i : Nat) {R : List Rng} (e : L[i]? = some (.rd R)) : RdIn W R := h.in i e
/-- cells that are read, in memory that a callee made or that is read already -/
theorem Hp.addrd {w W W' : World} {L : List Th} (h : Hp w L W) (hb : Below W.heap.size W W') (R : List Rng) (hR : RdIn W' R) (hr : ∀ r ∈ R, W.heap.size ≤ r.1 ∨ ∃ z ∈ L, r.1 ∈ z.reads) : Hp w (L ++ [.rd R]) W' :=
  h.add hb _ hR (fun b e => by cases e) (fun b hb' => by
    obtain ⟨r, hr', rfl⟩ := List.mem_map.1 hb'
    exact hr r hr')
/-- what the walk found is read -/
theorem Hp.startrd (w : World) (R : List Rng) (hR : RdIn w R) : Hp w [.rd R] w := ⟨Below.refl _ _, fun x hx => by
  obtain rfl := List.mem_singleton.1 hx
  exact hR, List.pairwise_singleton _ _⟩
/-- a slice of single words -/
theorem flat_cells {vs : List Value} (h : ∀ v ∈ vs, v.cells = #[v]) : (vs.flatMap fun v => v.cells.toList) = vs := by
  induction vs with
  | nil => rfl
  | cons v l ih => rw [List.flatMap_cons, h v (List.mem_cons_self ..), ih (fun u hu => h u (List.mem_cons_of_mem _ hu))]; rfl
theorem run_build_vals {e ts : TypeId} {bytes : Nat} (he : ElemIs e 1 bytes) (ht : Try.prog.underlying ts = some (.slice e)) (vs : List Value) (hv : ∀ v ∈ vs, v.cells = #[v]) (h0 : 0 < vs.length) (h16 : vs.length ≤ 256) (W : World) :
    Sem.run Try.prog (Instr.buildSlice ts vs.length ((vs.zipIdx 0).map fun x => (x.2, x.1)).toArray) W = .ok (.slice (some ⟨W.heap.size, 0, none⟩) vs.length vs.length) (W.alloc (.cells vs.toArray e)) := by
  obtain ⟨inf, zv, hi, hz, hsize, hby, hzs⟩ := he.is
  refine run_buildSlice W ts e vs.length _ _ inf zv ht hi hz (by rw [hsize]; omega) (by rw [hsize]; omega) ?_
  rw [hsize]
  have := Great.fill_whole (s := 1) (by decide) vs ((Array.range (vs.length * 1)).map (zv.cells[· % zv.cells.size]!)) (by
    intro v hm
    rw [hv v hm]; rfl) (by rw [Array.size_map, Array.size_range])
  rw [flat_cells hv] at this
  exact this
theorem wp_build_vals {o : Oper} {a : Act} {W : World} {K : Act → World → Prop} {Q : Exit → Act → World → Prop} {ts : TypeId} {n : Nat} {ps : Array (Nat × Operand)} (ho : o.op = .buildSlice ts n ps) {e : TypeId} {bytes : Nat} (he : ElemIs e 1 bytes) (ht : Try.prog.underlying ts = some (.slice e)) (vs : List Value) (hv : ∀ v ∈ vs, v.cells = #[v]) (h0 : 0 < vs.length) (h16 : vs.length ≤ 256) (hn : n = vs.length)
    (hp : ps.map (fun x => (x.1, a.eval x.2)) = ((vs.zipIdx 0).map fun x => (x.2, x.1)).toArray)
    (h : K (a.put o.dst (.slice (some ⟨W.heap.size, 0, none⟩) n n)) (W.alloc (.cells vs.toArray e))) : o.wp Try.prog a W K Q := by
  subst hn
  have hr := run_build_vals he ht vs hv h0 h16 W
  rw [← hp] at hr
  unfold Oper.wp execOp
  simp only [ho, Sem.run_bind, hr, Result.andThen_ok, Sem.run_pure]
  exact h
theorem wpList_build_vals (ts : TypeId) (n : Nat) {ps : Array (Nat × Operand)} {ops : Array Oper} {rest : List Oper} {a : Act} {W : World} {Q : Exit → Act → World → Prop} {d : Option Tmp} {ty : TypeId} {pos : String} {aft : Array Edge} {e : TypeId} {bytes : Nat} (he : ElemIs e 1 bytes) (ht : Try.prog.underlying ts = some (.slice e)) (vs : List Value) (hv : ∀ v ∈ vs, v.cells = #[v]) (h0 : 0 < vs.length) (h16 : vs.length ≤ 256) (hn : n = vs.length)
    (hp : ps.map (fun x => (x.1, a.eval x.2)) = ((vs.zipIdx 0).map fun x => (x.2, x.1)).toArray)
    (h : wpList Try.prog ops Q rest (a.put d (.slice (some ⟨W.heap.size, 0, none⟩) n n)) (W.alloc (.cells vs.toArray e))) :
    wpList Try.prog ops Q ({ dst := d, op := .buildSlice ts n ps, type := ty, pos := pos, after := aft, guard := none } :: rest) a W :=
  wpList_plain rfl fun _ hK => wp_build_vals rfl he ht vs hv h0 h16 hn hp (hK _ _ h)
end Go.Proofs.Ythcjkbhkidijoaa
/- a slice that reads as these cells; what reads is appended to a slice of the walk's own -/
namespace Go.Proofs.Ythcjkbhkidijoaa
open Go.RowKit
set_option maxRecDepth 20000

/-- a slice that reads as these cells -/
def SlRd (v : Value) (z n : Nat) (xs : List Value) (R : List Rng) : Prop :=
  ∃ a cap, v = .slice a n cap ∧ xs.length = n * z ∧ n ≤ cap ∧ cap ≤ maxLen ∧ (0 < n → ∃ g off, a = some ⟨g, off, none⟩ ∧ (g, off, xs) ∈ R) ∧ (a = none → cap = 0)
theorem SlRd.mono {v : Value} {z n : Nat} {xs : List Value} {R S : List Rng} (h : SlRd v z n xs R) (hs : ∀ r ∈ R, r ∈ S) : SlRd v z n xs S := by
  obtain ⟨a, cap, h1, h2, h3, h4, h5, h8⟩ := h
  refine ⟨a, cap, h1, h2, h3, h4, fun h => ?_, h8⟩
  obtain ⟨g, off, h6, h7⟩ := h5 h
  exact ⟨g, off, h6, hs _ h7⟩
theorem SlRd.nil (z : Nat) (R : List Rng) : SlRd (.slice none 0 0) z 0 [] R := ⟨none, 0, rfl, by simp, Nat.le_refl _, Nat.zero_le _, fun h => absurd h (by decide), fun _ => rfl⟩
/-- a slice of the walk's own, handed out, reads -/
theorem own_reads {B : Nat} {W : World} {e : TypeId} {z n : Nat} {v : Value} {xs : List Value} (h : W.ownsRow B e z v n xs) : ∃ R, SlRd v z n xs R ∧ RdIn W R ∧ (∀ r ∈ R, B ≤ r.1 ∧ v.ownBlock = some r.1) := by
  have hl := h.1
  rcases h.2 with ⟨hv, h0⟩ | ⟨g, cap, cur, hv, hB, hg, h1, h2, h3⟩
  · subst h0
    have : xs = [] := List.eq_nil_of_length_eq_zero (by rw [hl]; omega)
    subst this
    exact ⟨[], by rw [hv]; exact SlRd.nil z [], RdIn.nil W, by simp⟩
  · have hr : W.rangeAt g 0 xs := own_range h hv 0 xs (fun j u hu => by rw [Nat.zero_add]; exact hu)
    refine ⟨[(g, 0, xs)], ⟨_, cap, hv, hl, h1, h2, fun _ => ⟨g, 0, rfl, List.mem_singleton.2 rfl⟩, fun h => by cases h⟩, fun r hr' => ?_, fun r hr' => ?_⟩
    · obtain rfl := List.mem_singleton.1 hr'
      exact ⟨(Array.getElem?_eq_some_iff.1 hg).1, hr⟩
    · obtain rfl := List.mem_singleton.1 hr'
      exact ⟨hB, by rw [hv]; rfl⟩
/-- what reads is appended to a slice of the walk's own -/
theorem Hp.appendSl {w W : World} {L : List Th} (h : Hp w L W) (i : Nat) {v : Value} {e : TypeId} {z n : Nat} {xs : List Value} (ei : L[i]? = some (.sl v e z n xs)) {x : Value} {m : Nat} {ys : List Value} {R : List Rng} (hx : SlRd x z m ys R) (hR : RdIn W R)
    (ts : TypeId) (ty : TypeId) {bytes : Nat} (ht : Try.prog.underlying ts = some (.slice e)) (he : ElemIs e z bytes) (h1 : ∀ u ∈ ys, u.oneCell' = true) (hn : n + m ≤ 1048576) :
    ∃ v' W', (Builtin.append_ #[ts, ts] ty #[v, x]).run Try.prog W = .ok v' W' ∧ Hp w (L.set i (.sl v' e z (n + m) (xs ++ ys))) W' := by
  obtain ⟨inf, zv, hi, hz, hsize, hby, hzs⟩ := he.is
  have hroom := he.room
  obtain ⟨a, cap, rfl, hl, hmc, hcm, hg, h0⟩ := hx
  cases a with
  | none =>
    have hc := h0 rfl
    have hm : m = 0 := by omega
    subst hc hm
    have hys : ys = [] := List.eq_nil_of_length_eq_zero (by rw [hl]; omega)
    subst hys
    refine ⟨v, W, run_append_owned_none (P := Try.prog) W w.heap.size ts ty e inf z ht hi v n xs (h.own i ei), ?_⟩
    rw [List.append_nil, Nat.add_zero]
    have : L.set i (.sl v e z n xs) = L := by
      apply List.ext_getElem?
      intro j
      rw [List.getElem?_set]
      split
      · next hij =>
        subst hij
        rw [ei]
        split
        · rfl
        · next hlt => rw [List.getElem?_eq_none (by omega)] at ei; cases ei
      · rfl
    rw [this]
    exact h
  | some a =>
    have hcell : ∀ q u, ys[q]? = some u → W.cell? (a.add q) = some u := fun q u hu => by
      have hq := (List.getElem?_eq_some_iff.1 hu).1
      have hm : 0 < m := by
        rcases Nat.eq_zero_or_pos m with h | h
        · rw [h, Nat.zero_mul] at hl; omega
        · exact h
      obtain ⟨g, off, ha, hmem⟩ := hg hm
      obtain rfl := Option.some.inj ha
      rw [Addr.add_mid]
      exact (hR _ hmem).2 q u hu
    obtain ⟨v', W', hr, h2, h3, h4, h5⟩ := run_append_own_at (P := Try.prog) W w.heap.size ts ty e inf zv z bytes ht hi hz hsize hby hzs he.pos v n xs (h.own i ei) a m cap ys hl hcell h1 (by unfold maxLen; omega) (by
      have := Nat.mul_le_mul hn hroom
      omega) h.old.size
    exact ⟨v', W', hr, h.grown i ei h2 h3 h5⟩
theorem wp_append_sl {o : Oper} {a : Act} {w W : World} {K : Act → World → Prop} {Q : Exit → Act → World → Prop} {L : List Th} (h : Hp w L W) (s x : Operand) (ts : TypeId) (ho : o.op = .call { callee := .builtin .append, args := #[s, x], argTypes := #[ts, ts] })
    (i : Nat) {v : Value} {e : TypeId} {z n : Nat} {xs : List Value} (ei : L[i]? = some (.sl v e z n xs)) {xv : Value} {m : Nat} {ys : List Value} {R : List Rng} (hxv : SlRd xv z m ys R) (hR : RdIn W R) {bytes : Nat} (ht : Try.prog.underlying ts = some (.slice e)) (he : ElemIs e z bytes)
    (hs : a.eval s = v) (hx : a.eval x = xv) (h1 : ∀ u ∈ ys, u.oneCell' = true) (hn : n + m ≤ 1048576)
    (hk : ∀ v' W', Hp w (L.set i (.sl v' e z (n + m) (xs ++ ys))) W' → K (a.put o.dst v') W') : o.wp Try.prog a W K Q := by
  obtain ⟨v', W', hr, h2⟩ := h.appendSl i ei hxv hR ts o.type ht he h1 hn
  unfold Oper.wp execOp
  simp only [ho, resolve, invoke, builtin, Sem.run_bind, Sem.run_pure, Result.andThen_ok, List.map_toArray, List.map_cons, List.map_nil, hs, hx, hr]
  exact hk v' W' h2
theorem wpList_append_sl {ops : Array Oper} {rest : List Oper} {a : Act} {w W : World} {Q : Exit → Act → World → Prop} {d : Option Tmp} {ty : TypeId} {pos : String} {aft : Array Edge} {L : List Th} (h : Hp w L W) (s x : Operand) (ts : TypeId)
    (i : Nat) {v : Value} {e : TypeId} {z n : Nat} {xs : List Value} (ei : L[i]? = some (.sl v e z n xs)) {xv : Value} {m : Nat} {ys : List Value} {R : List Rng} (hxv : SlRd xv z m ys R) (hR : RdIn W R) {bytes : Nat} (ht : Try.prog.underlying ts = some (.slice e)) (he : ElemIs e z bytes)
    (hs : a.eval s = v) (hx : a.eval x = xv) (h1 : ∀ u ∈ ys, u.oneCell' = true) (hn : n + m ≤ 1048576)
    (hk : ∀ v' W', Hp w (L.set i (.sl v' e z (n + m) (xs ++ ys))) W' → wpList Try.prog ops Q rest (a.put d v') W') :
    wpList Try.prog ops Q ({ dst := d, op := .call { callee := .builtin .append, args := #[s, x], argTypes := #[ts, ts] }, type := ty, pos := pos, after := aft, guard := none } :: rest) a W :=
  wpList_plain rfl fun _ hK => wp_append_sl h s x ts rfl i ei hxv hR ht he hs hx h1 hn (fun v' W' p => hK _ _ (hk v' W' p))
theorem SlRd.open {v : Value} {z n : Nat} {xs : List Value} {R : List Rng} (h : SlRd v z n xs R) {w : World} (hR : RdIn w R) :
    ∃ a cap, v = .slice a n cap ∧ n ≤ cap ∧ cap ≤ maxLen ∧ Hid (0 < n → ∃ g off, a = some ⟨g, off, none⟩ ∧ ∀ W, Below w.heap.size w W → W.rangeAt g off xs) := by
  obtain ⟨a, cap, h1, h2, h3, h4, h5, _⟩ := h
  refine ⟨a, cap, h1, h3, h4, fun h0 => ?_⟩
  obtain ⟨g, off, h6, h7⟩ := h5 h0
  refine ⟨g, off, h6, fun W hb => ?_⟩
  exact (hR.below hb _ h7).2
theorem all_take {α : Type} {l : List α} {f : α → Bool} {k : Nat} (h : k < l.length) (ha : (l.take k).all f = true) (hx : f l[k] = true) : (l.take (k + 1)).all f = true := by
  rw [List.take_succ_eq_append_getElem h, List.all_append, ha]
  simp [hx]
theorem all_no {α : Type} {l : List α} {f : α → Bool} {k : Nat} (h : k < l.length) (hx : f l[k] = false) : l.all f = false := all_false (List.getElem_mem h) hx
theorem range_take {k : Nat} {f : Nat → Bool} (ha : (List.range k).all f = true) (hx : f k = true) : (List.range (k + 1)).all f = true := by
  rw [List.range_succ, List.all_append, ha]
  simp [hx]
theorem range_no {n k : Nat} {f : Nat → Bool} (h : k < n) (hx : f k = false) : (List.range n).all f = false := all_false (List.mem_range.2 h) hx
theorem elem_of {t : TypeId} {z : Value} {s b : Nat} (h : (Try.prog.info? t).map (fun i => (i.zero, i.size, i.bytes)) = some (some z, s, b)) (hz : z.cells.size = s) (h1 : 0 < s) (h2 : s ≤ 65536) (h3 : b ≤ 65536) : ElemIs t s b := by
  obtain ⟨i, e1, e2, e3, e4⟩ := info_of h
  exact ⟨⟨i, z, e1, e2, e3, e4, hz⟩, h1, h2, h3⟩
theorem elem_i : ElemIs 3 1 8 := elem_of (z := .int .i64 0) (by kernel_rfl) rfl (by decide) (by decide) (by decide)
theorem elem_s : ElemIs 9 1 16 := elem_of (z := .string ⟨#[]⟩) (by kernel_rfl) rfl (by decide) (by decide) (by decide)
end Go.Proofs.Ythcjkbhkidijoaa
/- faults and devices as values, and what the functions of chapter 4 answer -/
namespace Go.Proofs.Ythcjkbhkidijoaa
open Go.RowKit
set_option maxRecDepth 20000

structure Flt where
  kind : Int
  at_ : Int
  page : Int
  target : Int
  byte : Int
  mask : Int
structure Dv where
  pages : List ByteArray
  writes : Int
  unread : List Int
  dead : Bool
  faults : List Flt
def fltCells (f : Flt) : List Value := [.int .i64 f.kind, .int .i64 f.at_, .int .i64 f.page, .int .i64 f.target, .int .i64 f.byte, .int .u8 f.mask]
def intRow (l : List Int) : List Value := l.map (.int .i64)
def strRow (l : List ByteArray) : List Value := l.map .string
def fltRow (l : List Flt) : List Value := l.flatMap fltCells
def dvCells (p : Value) (d : Dv) (u f : Value) : List Value := [p, .int .i64 d.writes, u, .bool d.dead, f]
/-- a device's three slices read -/
structure DvRd (p u f : Value) (d : Dv) (R : List Rng) : Prop where
  pages : SlRd p 1 d.pages.length (strRow d.pages) R
  unread : SlRd u 1 d.unread.length (intRow d.unread) R
  faults : SlRd f 6 d.faults.length (fltRow d.faults) R
theorem DvRd.mono {p u f : Value} {d : Dv} {R S : List Rng} (h : DvRd p u f d R) (hs : ∀ r ∈ R, r ∈ S) : DvRd p u f d S := ⟨h.pages.mono hs, h.unread.mono hs, h.faults.mono hs⟩
/-- a value that reads as a device -/
def DvIs (v : Value) (d : Dv) (R : List Rng) : Prop := ∃ p u f, v = .agg (dvCells p d u f).toArray ∧ DvRd p u f d R
def dvNil : Dv := ⟨[], 0, [], false, []⟩
theorem dvNil_is : DvIs (.agg (dvCells (.slice none 0 0) dvNil (.slice none 0 0) (.slice none 0 0)).toArray) dvNil [] := ⟨_, _, _, rfl, SlRd.nil _ _, SlRd.nil _ _, SlRd.nil _ _⟩

def shapeB (f : Flt) : Bool :=
  if f.kind = 1 then decide (f.page = 0 ∧ f.target = 0 ∧ f.byte = 0 ∧ f.mask = 0)
  else if f.kind = 6 then decide (f.page = 0 ∧ f.target = 0 ∧ f.byte = 0 ∧ f.mask = 0)
  else if f.kind = 2 then decide (f.page = 0 ∧ f.byte = 0 ∧ f.mask = 0)
  else if f.kind = 3 then decide (f.page = 0 ∧ f.target = 0 ∧ f.mask = 0)
  else if f.kind = 4 then decide (f.target = 0 ∧ ¬ f.mask = 0)
  else if f.kind = 5 then decide (f.target = 0 ∧ f.byte = 0 ∧ f.mask = 0)
  else false
def rangesB (n : Nat) (w : Int) (f : Flt) : Bool :=
  !decide (f.at_ ≤ w) && (!decide (1099511627776 < f.at_) && (!decide (f.page < 0) && (!decide ((n : Int) ≤ f.page) && (!decide (f.target < 0) && (!decide ((n : Int) ≤ f.target) && (!decide (f.byte < 0) && !decide (256 ≤ f.byte)))))))
/-- the fault f is valid for a device of n pages that was written w times -/
def fltOkB (n : Nat) (w : Int) (f : Flt) : Bool := rangesB n w f && shapeB f
def unreadAtB (n : Nat) (l : List Int) (i : Nat) : Bool :=
  !decide (l.getD i 0 < 0) && (!decide ((n : Int) ≤ l.getD i 0) && !(decide (0 < i) && decide (l.getD i 0 ≤ l.getD (i - 1) 0)))
def numsB (d : Dv) : Bool :=
  !decide ((d.pages.length : Int) < 1) && (!decide (64 < (d.pages.length : Int)) && (!decide (d.writes < 0) && (!decide (1099511627776 < d.writes) && !decide (64 < (d.faults.length : Int)))))
def pagesB (d : Dv) : Bool := d.pages.all fun s => decide (s.size = 256)
def unreadB (d : Dv) : Bool := (List.range d.unread.length).all (unreadAtB d.pages.length d.unread)
def faultsB (d : Dv) : Bool := d.faults.all (fltOkB d.pages.length d.writes)
def dvOkB (d : Dv) : Bool := numsB d && (pagesB d && (unreadB d && faultsB d))

def blankPg : ByteArray := ⟨Array.replicate 256 0⟩
def newR (n : Int) : Dv × Int := if n < 1 ∨ 64 < n then (dvNil, 1) else (⟨List.replicate n.toNat blankPg, 0, [], false, []⟩, 0)
def injectR (d : Dv) (f : Flt) : Dv × Int :=
  if dvOkB d = false then (dvNil, 15) else if fltOkB d.pages.length d.writes f = false then (dvNil, 1) else if d.faults.length = 64 then (dvNil, 21) else (⟨d.pages, d.writes, d.unread, d.dead, d.faults ++ [f]⟩, 0)
def usableR (d : Dv) (page : Int) : Int := if dvOkB d = false then 15 else if d.dead = true then 10 else if page < 0 ∨ (d.pages.length : Int) ≤ page then 1 else 0
def hasB (l : List Int) (n : Int) : Bool := l.any fun x => decide (x = n)
def readR (d : Dv) (page : Int) : ByteArray × Int :=
  if usableR d page ≠ 0 then (⟨#[]⟩, usableR d page) else if hasB d.unread page = true then (⟨#[]⟩, 11) else (d.pages.getD page.toNat ⟨#[]⟩, 0)
def withoutR (l : List Int) (n : Int) : List Int := l.filter fun x => !decide (x = n)
/-- an ascending list with a number -/
def withR (n : Int) : List Int → List Int
  | [] => [n]
  | x :: l => if n ≤ x then n :: withoutR (x :: l) n else x :: withR n l
def placeR (d : Dv) (page : Int) (s : ByteArray) (n : Nat) : Dv :=
  ⟨d.pages.set page.toNat (s.extract 0 n ++ (d.pages.getD page.toNat ⟨#[]⟩).extract n 256), d.writes, withoutR d.unread page, d.dead, d.faults⟩
def landR (d : Dv) (page : Int) (s : ByteArray) : List Flt → Dv
  | [] => placeR d page s 256
  | f :: l => if f.kind = 1 then d else if f.kind = 2 then placeR d f.target s 256 else if f.kind = 3 then placeR d page s f.byte.toNat else landR d page s l
def rotR (b : ByteArray) (k : Nat) (m : Int) : ByteArray := ⟨b.data.modify k fun x => x ^^^ UInt8.ofNat m.toNat⟩
def happenR (d : Dv) (f : Flt) : Dv :=
  if f.kind = 4 then ⟨d.pages.modify f.page.toNat fun b => rotR b f.byte.toNat f.mask, d.writes, d.unread, d.dead, d.faults⟩
  else if f.kind = 5 then ⟨d.pages, d.writes, withR f.page d.unread, d.dead, d.faults⟩
  else if f.kind = 6 then ⟨d.pages, d.writes, d.unread, true, d.faults⟩ else d
def nowR (d : Dv) : List Flt := d.faults.filter fun f => decide (f.at_ = d.writes + 1)
def laterR (d : Dv) : List Flt := d.faults.filter fun f => !decide (f.at_ = d.writes + 1)
def writeR (d : Dv) (page : Int) (s : ByteArray) : Dv × Int :=
  if usableR d page ≠ 0 then (dvNil, usableR d page) else if s.size ≠ 256 then (dvNil, 2) else if d.writes = 1099511627776 then (dvNil, 21)
  else ((nowR d).foldl happenR (landR ⟨d.pages, d.writes + 1, d.unread, d.dead, laterR d⟩ page s (nowR d)), 0)
def replaceR (d : Dv) : Dv × Int := if dvOkB d = false then (dvNil, 15) else (⟨List.replicate d.pages.length blankPg, d.writes, [], false, d.faults⟩, 0)
def tearR (d : Dv) (page : Int) (s : ByteArray) (cut : Int) : Dv × Int :=
  if usableR d page ≠ 0 then (dvNil, usableR d page) else if cut < 0 ∨ 256 < cut then (dvNil, 1) else if s.size ≠ 256 then (dvNil, 2) else (placeR d page s cut.toNat, 0)

/-- the numbers of a fault are numbers -/
structure GoodFlt (f : Flt) : Prop where
  kind : (Lit.int .i64 f.kind).wf = true
  at_ : (Lit.int .i64 f.at_).wf = true
  page : (Lit.int .i64 f.page).wf = true
  target : (Lit.int .i64 f.target).wf = true
  byte : (Lit.int .i64 f.byte).wf = true
  mask : (Lit.int .u8 f.mask).wf = true
def fltLits (f : Flt) : List Lit := [.int .i64 f.kind, .int .i64 f.at_, .int .i64 f.page, .int .i64 f.target, .int .i64 f.byte, .int .u8 f.mask]
theorem fltLits_iff (a b : Flt) : fltLits a = fltLits b ↔ a = b := by
  constructor
  · intro h
    simp only [fltLits, List.cons.injEq, Lit.int.injEq, true_and, and_true] at h
    obtain ⟨h1, h2, h3, h4, h5, h6⟩ := h
    cases a; cases b
    simp only at h1 h2 h3 h4 h5 h6
    rw [h1, h2, h3, h4, h5, h6]
  · rintro rfl; rfl
theorem cellsOf_flt : Try.prog.cellsOf 29 = 6 := by kernel_rfl
theorem cellsOf_i : Try.prog.cellsOf 3 = 1 := by kernel_rfl
theorem cellsOf_u8 : Try.prog.cellsOf 5 = 1 := by kernel_rfl
theorem lits_i (d : Nat) (n : Int) (h : (Lit.int .i64 n).wf = true) : Try.prog.keyLits (d + 1) 3 [.int .i64 n] = some [.int .i64 n] := by
  unfold Program.keyLits
  rw [Try.underlying3]
  simp [h]
theorem lits_u8 (d : Nat) (n : Int) (h : (Lit.int .u8 n).wf = true) : Try.prog.keyLits (d + 1) 5 [.int .u8 n] = some [.int .u8 n] := by
  unfold Program.keyLits
  rw [Try.underlying5]
  simp [h]
theorem lits_flt (d : Nat) (f : Flt) (h : GoodFlt f) : Try.prog.keyLits (d + 2) 29 (fltCells f) = some (fltLits f) := by
  rw [show d + 2 = (d + 1) + 1 from rfl]
  unfold Program.keyLits
  rw [Try.underlying29]
  simp only
  rw [if_pos ⟨by rw [cellsOf_flt]; rfl, by kernel_rfl⟩]
  unfold fltCells
  simp only [List.mapM_cons, List.mapM_nil, cellsOf_i, cellsOf_u8, List.drop_zero, List.take_succ_cons, List.take_zero, List.drop_succ_cons, lits_i d f.kind h.kind, lits_i d f.at_ h.at_, lits_i d f.page h.page, lits_i d f.target h.target, lits_i d f.byte h.byte, lits_u8 d f.mask h.mask]
  simp [fltLits, List.flatten, pure, bind]
theorem flt_formed (f : Flt) : (Value.agg (fltCells f).toArray).formed Try.prog 29 = true := by
  unfold Value.formed
  rw [Try.underlying29]
  simp only
  rw [List.size_toArray, show (fltCells f).length = 6 from rfl, cellsOf_flt]
  rfl
theorem equal_flt (a b : Flt) (ha : GoodFlt a) (hb : GoodFlt b) (w : World) : Sem.run Try.prog (Op.equal 29 (.agg (fltCells a).toArray) (.agg (fltCells b).toArray)) w = .ok (sameV a b) w :=
  equal_lits 29 a b _ _ _ _ (by kernel_rfl) (flt_formed a) (flt_formed b) (lits_flt 2 a ha) (lits_flt 2 b hb) (fltLits_iff a b) w
def fltNil : Flt := ⟨0, 0, 0, 0, 0, 0⟩
def nilS : Value := .slice none 0 0
theorem info_flt : (Try.prog.info? 29).map (·.size) = some 6 := by kernel_rfl
theorem info_dv : (Try.prog.info? 27).map (·.size) = some 5 := by kernel_rfl
theorem under_flt : ∃ fs, Try.prog.underlying 29 = some (.struct fs) := ⟨_, Try.underlying29⟩
theorem under_dv : ∃ fs, Try.prog.underlying 27 = some (.struct fs) := ⟨_, Try.underlying27⟩
theorem oneCell_flt (f : Flt) : ((fltCells f).toArray).all (·.oneCell') = true := by kernel_rfl
theorem alloc_flt (w : World) : Sem.run Try.prog (Instr.alloc 29 true (.tuple #[])) w = .ok (.pointer (some ⟨w.heap.size, 0, none⟩)) (w.alloc (.cells (fltCells fltNil).toArray 29)) := by kernel_rfl
theorem alloc_dv (w : World) : Sem.run Try.prog (Instr.alloc 27 true (.tuple #[])) w = .ok (.pointer (some ⟨w.heap.size, 0, none⟩)) (w.alloc (.cells (dvCells nilS dvNil nilS nilS).toArray 27)) := by kernel_rfl
theorem oneCell_dv (a b c : Option Addr) (n m k i j l : Nat) (d : Dv) : ((dvCells (.slice a n i) d (.slice b m j) (.slice c k l)).toArray).all (·.oneCell') = true := by kernel_rfl
theorem elem_flt : ElemIs 29 6 48 := elem_of (z := .agg (fltCells fltNil).toArray) (by kernel_rfl) rfl (by decide) (by decide) (by decide)
end Go.Proofs.Ythcjkbhkidijoaa
/- the walk of the reference's check of a fault -/
namespace Go.Proofs.Ythcjkbhkidijoaa
open Go.RowKit
set_option maxRecDepth 20000

theorem flt_same {a b : Flt} (ha : GoodFlt a) (hb : GoodFlt b) (W : World) : Sem.run Try.prog (binOp .eql 29 (.agg #[.int .i64 a.kind, .int .i64 a.at_, .int .i64 a.page, .int .i64 a.target, .int .i64 a.byte, .int .u8 a.mask]) (.agg #[.int .i64 b.kind, .int .i64 b.at_, .int .i64 b.page, .int .i64 b.target, .int .i64 b.byte, .int .u8 b.mask])) W = .ok (.bool (sameV a b)) W := run_eql (equal_flt a b ha hb) W
theorem sameV_eq {α : Type} {a b : α} {c : Bool} (h : a = b ↔ c = true) : sameV a b = c := by rw [Bool.eq_iff_iff, sameV_iff, h]
theorem wf0 : (Lit.int .i64 0).wf = true := by decide
theorem wf0b : (Lit.int .u8 0).wf = true := by decide
set_option maxHeartbeats 4000000 in
theorem rfault_bad (a : Option Addr) (n cap : Nat) (wr : Int) (u : Value) (dead : Bool) (f : Value) (x : Flt) (w : World) (hr : rangesB n wr x = false) :
    Calls Try.prog 53 #[.agg #[.slice a n cap, .int .i64 wr, u, .bool dead, f], .agg #[.int .i64 x.kind, .int .i64 x.at_, .int .i64 x.page, .int .i64 x.target, .int .i64 x.byte, .int .u8 x.mask]] w fun e w' => e = .returned (.bool (fltOkB n wr x)) ∧ Below w.heap.size w w' := by
  have HF : Hid (fltOkB n wr x = false) := by show _ = _; unfold fltOkB; rw [hr]; rfl
  have fin : Hid (∀ W, W = ((w.alloc (.cells #[.slice a n cap, .int .i64 wr, u, .bool dead, f] 27)).alloc (.cells #[.int .i64 x.kind, .int .i64 x.at_, .int .i64 x.page, .int .i64 x.target, .int .i64 x.byte, .int .u8 x.mask] 29)) → Below w.heap.size w W) := by
    rintro W rfl
    exact ((Below.refl _ _).alloc (Nat.le_refl _) _).alloc (by simp) _
  unfold rangesB at hr
  obtain ⟨k, t, p, g, b, m⟩ := x
  simp only at hr HF fin ⊢
  by_cases c1 : t ≤ wr
  · clear hr
    go_enter Try.func53, Try.ntmps53
    go_wp2
    go_ret
    exact ⟨by rw [HF.out]; rfl, fin.out _ rfl⟩
  by_cases c2 : 1099511627776 < t
  · clear hr
    go_enter Try.func53, Try.ntmps53
    go_wp2
    go_ret
    exact ⟨by rw [HF.out]; rfl, fin.out _ rfl⟩
  by_cases c3 : p < 0
  · clear hr
    go_enter Try.func53, Try.ntmps53
    go_wp2
    go_ret
    exact ⟨by rw [HF.out]; rfl, fin.out _ rfl⟩
  by_cases c4 : (n : Int) ≤ p
  · clear hr
    go_enter Try.func53, Try.ntmps53
    go_wp2
    go_ret
    exact ⟨by rw [HF.out]; rfl, fin.out _ rfl⟩
  by_cases c5 : g < 0
  · clear hr
    go_enter Try.func53, Try.ntmps53
    go_wp2
    go_ret
    exact ⟨by rw [HF.out]; rfl, fin.out _ rfl⟩
  by_cases c6 : (n : Int) ≤ g
  · clear hr
    go_enter Try.func53, Try.ntmps53
    go_wp2
    go_ret
    exact ⟨by rw [HF.out]; rfl, fin.out _ rfl⟩
  by_cases c7 : b < 0
  · clear hr
    go_enter Try.func53, Try.ntmps53
    go_wp2
    go_ret
    exact ⟨by rw [HF.out]; rfl, fin.out _ rfl⟩
  by_cases c8 : 256 ≤ b
  · clear hr
    go_enter Try.func53, Try.ntmps53
    go_wp2
    go_ret
    exact ⟨by rw [HF.out]; rfl, fin.out _ rfl⟩
  · exact absurd hr (by simp [c1, c2, c3, c4, c5, c6, c7, c8])
set_option maxHeartbeats 8000000 in
theorem rfault_good (a : Option Addr) (n cap : Nat) (wr : Int) (u : Value) (dead : Bool) (f : Value) (x : Flt) (w : World) (hx : GoodFlt x) (hr : rangesB n wr x = true) :
    Calls Try.prog 53 #[.agg #[.slice a n cap, .int .i64 wr, u, .bool dead, f], .agg #[.int .i64 x.kind, .int .i64 x.at_, .int .i64 x.page, .int .i64 x.target, .int .i64 x.byte, .int .u8 x.mask]] w fun e w' => e = .returned (.bool (fltOkB n wr x)) ∧ Below w.heap.size w w' := by
  have HF : Hid (fltOkB n wr x = shapeB x) := by show _ = _; unfold fltOkB; rw [hr]; rfl
  have fin : Hid (∀ (y : Flt) W, W.heap.size = W.heap.size → Below w.heap.size w W → Below w.heap.size w W) := fun _ _ _ h => h
  clear fin
  have H2 : Hid (Below w.heap.size w ((w.alloc (.cells #[.slice a n cap, .int .i64 wr, u, .bool dead, f] 27)).alloc (.cells #[.int .i64 x.kind, .int .i64 x.at_, .int .i64 x.page, .int .i64 x.target, .int .i64 x.byte, .int .u8 x.mask] 29))) := ((Below.refl _ _).alloc (Nat.le_refl _) _).alloc (by simp) _
  have HX := Lib.hid hx
  unfold rangesB at hr
  clear hx
  simp only [Bool.and_eq_true, Bool.not_eq_true', decide_eq_false_iff_not] at hr
  obtain ⟨c1, c2, c3, c4, c5, c6, c7, c8⟩ := hr
  obtain ⟨k, t, p, g, b, m⟩ := x
  simp only at c1 c2 c3 c4 c5 c6 c7 c8 HF HX H2 ⊢
  by_cases k1 : k = 1
  · subst k1
    have e : ∀ W, _ := fun W => flt_same (a := ⟨1, t, p, g, b, m⟩) (b := ⟨1, t, 0, 0, 0, 0⟩) HX.out ⟨(rfl : (Lit.int .i64 1).wf = true), HX.out.at_, (rfl : (Lit.int .i64 0).wf = true), (rfl : (Lit.int .i64 0).wf = true), (rfl : (Lit.int .i64 0).wf = true), (rfl : (Lit.int .u8 0).wf = true)⟩ W
    simp only at e
    have HQ : Hid (sameV (⟨1, t, p, g, b, m⟩ : Flt) ⟨1, t, 0, 0, 0, 0⟩ = shapeB ⟨1, t, p, g, b, m⟩) := by
      refine sameV_eq ?_
      simp [shapeB]
    go_enter Try.func53, Try.ntmps53
    go_wp2
    go_ret
    refine ⟨?_, ?_⟩
    · rw [HF.out, ← HQ.out]; rfl
    · exact H2.out.alloc (by simp; omega) _
  by_cases k6 : k = 6
  · subst k6
    have e : ∀ W, _ := fun W => flt_same (a := ⟨6, t, p, g, b, m⟩) (b := ⟨6, t, 0, 0, 0, 0⟩) HX.out ⟨(rfl : (Lit.int .i64 6).wf = true), HX.out.at_, (rfl : (Lit.int .i64 0).wf = true), (rfl : (Lit.int .i64 0).wf = true), (rfl : (Lit.int .i64 0).wf = true), (rfl : (Lit.int .u8 0).wf = true)⟩ W
    simp only at e
    have HQ : Hid (sameV (⟨6, t, p, g, b, m⟩ : Flt) ⟨6, t, 0, 0, 0, 0⟩ = shapeB ⟨6, t, p, g, b, m⟩) := by
      refine sameV_eq ?_
      simp [shapeB]
    go_enter Try.func53, Try.ntmps53
    go_wp2
    go_ret
    refine ⟨?_, ?_⟩
    · rw [HF.out, ← HQ.out]; rfl
    · exact H2.out.alloc (by simp; omega) _
  by_cases k2 : k = 2
  · subst k2
    have e : ∀ W, _ := fun W => flt_same (a := ⟨2, t, p, g, b, m⟩) (b := ⟨2, t, 0, g, 0, 0⟩) HX.out ⟨(rfl : (Lit.int .i64 2).wf = true), HX.out.at_, (rfl : (Lit.int .i64 0).wf = true), HX.out.target, (rfl : (Lit.int .i64 0).wf = true), (rfl : (Lit.int .u8 0).wf = true)⟩ W
    simp only at e
    have HQ : Hid (sameV (⟨2, t, p, g, b, m⟩ : Flt) ⟨2, t, 0, g, 0, 0⟩ = shapeB ⟨2, t, p, g, b, m⟩) := by
      refine sameV_eq ?_
      simp [shapeB]
    go_enter Try.func53, Try.ntmps53
    go_wp2
    go_ret
    refine ⟨?_, ?_⟩
    · rw [HF.out, ← HQ.out]; rfl
    · exact H2.out.alloc (by simp; omega) _
  by_cases k3 : k = 3
  · subst k3
    have e : ∀ W, _ := fun W => flt_same (a := ⟨3, t, p, g, b, m⟩) (b := ⟨3, t, 0, 0, b, 0⟩) HX.out ⟨(rfl : (Lit.int .i64 3).wf = true), HX.out.at_, (rfl : (Lit.int .i64 0).wf = true), (rfl : (Lit.int .i64 0).wf = true), HX.out.byte, (rfl : (Lit.int .u8 0).wf = true)⟩ W
    simp only at e
    have HQ : Hid (sameV (⟨3, t, p, g, b, m⟩ : Flt) ⟨3, t, 0, 0, b, 0⟩ = shapeB ⟨3, t, p, g, b, m⟩) := by
      refine sameV_eq ?_
      simp [shapeB]
    go_enter Try.func53, Try.ntmps53
    go_wp2
    go_ret
    refine ⟨?_, ?_⟩
    · rw [HF.out, ← HQ.out]; rfl
    · exact H2.out.alloc (by simp; omega) _
  by_cases k4 : k = 4
  · subst k4
    have e : ∀ W, _ := fun W => flt_same (a := ⟨4, t, p, g, b, m⟩) (b := ⟨4, t, p, 0, b, m⟩) HX.out ⟨(rfl : (Lit.int .i64 4).wf = true), HX.out.at_, HX.out.page, (rfl : (Lit.int .i64 0).wf = true), HX.out.byte, HX.out.mask⟩ W
    simp only at e
    by_cases hm : m = 0
    · subst hm
      clear e
      have hq : shapeB ⟨4, t, p, g, b, 0⟩ = false := by simp [shapeB]
      have HQ := Lib.hid hq
      clear hq
      go_enter Try.func53, Try.ntmps53
      go_wp2
      go_region
      go_wp2
      go_ret
      refine ⟨?_, ?_⟩
      · rw [HF.out, HQ.out]; rfl
      · first | exact H2.out.alloc (by simp; omega) _ | exact (H2.out.alloc (by simp; omega) _).drew | exact H2.out.drew.alloc (by simp; omega) _
    · have hmb : (m == 0) = false := by rw [beq_eq_false_iff_ne]; exact hm
      have HQ : Hid (sameV (⟨4, t, p, g, b, m⟩ : Flt) ⟨4, t, p, 0, b, m⟩ = shapeB ⟨4, t, p, g, b, m⟩) := by
        refine sameV_eq ?_
        simp [shapeB, hm]
      clear hm
      go_enter Try.func53, Try.ntmps53
      go_wp2
      go_region
      go_wp2
      go_ret
      refine ⟨?_, ?_⟩
      · rw [HF.out, ← HQ.out]; rfl
      · first | exact H2.out.alloc (by simp; omega) _ | exact (H2.out.alloc (by simp; omega) _).drew | exact H2.out.drew.alloc (by simp; omega) _
  by_cases k5 : k = 5
  · subst k5
    have e : ∀ W, _ := fun W => flt_same (a := ⟨5, t, p, g, b, m⟩) (b := ⟨5, t, p, 0, 0, 0⟩) HX.out ⟨(rfl : (Lit.int .i64 5).wf = true), HX.out.at_, HX.out.page, (rfl : (Lit.int .i64 0).wf = true), (rfl : (Lit.int .i64 0).wf = true), (rfl : (Lit.int .u8 0).wf = true)⟩ W
    simp only at e
    have HQ : Hid (sameV (⟨5, t, p, g, b, m⟩ : Flt) ⟨5, t, p, 0, 0, 0⟩ = shapeB ⟨5, t, p, g, b, m⟩) := by
      refine sameV_eq ?_
      simp [shapeB]
    go_enter Try.func53, Try.ntmps53
    go_wp2
    go_ret
    refine ⟨?_, ?_⟩
    · rw [HF.out, ← HQ.out]; rfl
    · exact H2.out.alloc (by simp; omega) _
  have HQ : Hid (shapeB ⟨k, t, p, g, b, m⟩ = false) := by show _ = _; simp [shapeB, k1, k2, k3, k4, k5, k6]
  have e1 : (k == 1) = false := by rw [beq_eq_false_iff_ne]; exact k1
  have e2 : (k == 2) = false := by rw [beq_eq_false_iff_ne]; exact k2
  have e3 : (k == 3) = false := by rw [beq_eq_false_iff_ne]; exact k3
  have e4 : (k == 4) = false := by rw [beq_eq_false_iff_ne]; exact k4
  have e5 : (k == 5) = false := by rw [beq_eq_false_iff_ne]; exact k5
  have e6 : (k == 6) = false := by rw [beq_eq_false_iff_ne]; exact k6
  clear k1 k2 k3 k4 k5 k6
  go_enter Try.func53, Try.ntmps53
  go_wp2
  go_ret
  refine ⟨?_, ?_⟩
  · rw [HF.out, HQ.out]; rfl
  · exact H2.out.alloc (by simp; omega) _
theorem rfault_any (a : Option Addr) (n cap : Nat) (wr : Int) (u : Value) (dead : Bool) (f : Value) (x : Flt) (w : World) (hx : GoodFlt x) :
    Calls Try.prog 53 #[.agg #[.slice a n cap, .int .i64 wr, u, .bool dead, f], .agg (fltCells x).toArray] w fun e w' => e = .returned (.bool (fltOkB n wr x)) ∧ Below w.heap.size w w' := by
  cases hr : rangesB n wr x
  · exact rfault_bad a n cap wr u dead f x w hr
  · exact rfault_good a n cap wr u dead f x w hx hr
end Go.Proofs.Ythcjkbhkidijoaa
/- the walk of the reference's 'has' -/
namespace Go.Proofs.Ythcjkbhkidijoaa
open Go.RowKit
set_option maxRecDepth 20000

theorem intRow_at (l : List Int) (k : Nat) (h : k < l.length) : (intRow l)[k]? = some (.int .i64 l[k]) := by
  unfold intRow
  rw [List.getElem?_map, List.getElem?_eq_getElem h]
  rfl
theorem hasB_take {l : List Int} {n : Int} {k : Nat} (h : k < l.length) : hasB (l.take (k + 1)) n = (hasB (l.take k) n || decide (l[k] = n)) := by
  unfold hasB
  rw [List.take_succ_eq_append_getElem h, List.any_append]
  simp
theorem hasB_true {l : List Int} {n : Int} {k : Nat} (h : k < l.length) (e : l[k] = n) : hasB l n = true := by
  unfold hasB
  rw [List.any_eq_true]
  exact ⟨l[k], List.getElem_mem h, by simp [e]⟩
set_option maxHeartbeats 4000000 in
theorem has_any (l : List Int) (n : Int) (v : Value) (R : List Rng) (w : World) (hv : SlRd v 1 l.length (intRow l) R) (hR : RdIn w R) :
    Calls Try.prog 57 #[v, .int .i64 n] w fun e w' => e = .returned (.bool (hasB l n)) ∧ Below w.heap.size w w' := by
  obtain ⟨a, cap, rfl, hnc, hcm, hg⟩ := hv.open hR
  have HC : Hid (l.length ≤ cap ∧ cap ≤ maxLen) := ⟨hnc, hcm⟩
  clear hv hR hnc hcm
  go_enter Try.func57, Try.ntmps57
  go_wp2_with fail
  go_loopw [5] (fun i wr => ∃ k : Nat, k ≤ l.length ∧ i = .int .i64 k ∧ hasB (l.take k) n = false ∧ Below w.heap.size w wr) (fun i _ => l.length - (intOf i).toNat)
  case atStart => exact ⟨0, by omega, rfl, rfl, Below.refl _ _⟩
  case round =>
    obtain ⟨k, hk, rfl, hh, hb⟩ := hrel
    have HB := Lib.hid hb
    have HH := Lib.hid hh
    clear hb hh
    by_cases hlt : k < l.length
    · obtain ⟨g, off, rfl, hr⟩ := hg.out (by omega)
      have hc : wr.cell? ⟨g, off + k, none⟩ = some (.int .i64 l[k]) := hr wr HB.out k _ (intRow_at l k hlt)
      have hki : (k : Int) < (l.length : Int) := by omega
      have hk0 : (0 : Int) ≤ (k : Int) := by omega
      have hkm : (k : Int) < 9223372036854775807 := by have := HC.out; unfold maxLen at this; omega
      have HLt := Lib.hid hlt
      by_cases hx : l[k] = n
      · have hxb : (l[k] == n) = true := by simp [hx]
        have HX : Hid (hasB l n = true) := hasB_true hlt hx
        clear hr hx hg
        generalize l[k] = y at *
        go_wp2_with fail
        go_ret
        exact ⟨by rw [HX.out]; rfl, HB.out⟩
      · have hxb : (l[k] == n) = false := by rw [beq_eq_false_iff_ne]; exact hx
        have HX : Hid (hasB (l.take (k + 1)) n = false) := by show _ = _; rw [hasB_take hlt, HH.out, Bool.false_or]; exact decide_eq_false hx
        clear hr hx hg
        generalize l[k] = y at *
        go_wp2_with fail
        go_roundw
        case rel => exact ⟨k + 1, by omega, by go_num, HX.out, HB.out⟩
        case measure => simp [intOf]; omega
    · obtain rfl : k = l.length := by omega
      rw [List.take_length] at HH
      go_wp2_with fail
      go_ret
      exact ⟨by rw [HH.out]; rfl, HB.out⟩
end Go.Proofs.Ythcjkbhkidijoaa
/- the walk of the reference's check of a device -/
namespace Go.Proofs.Ythcjkbhkidijoaa
open Go.RowKit
set_option maxRecDepth 20000

theorem strRow_at (l : List ByteArray) (k : Nat) (h : k < l.length) : (strRow l)[k]? = some (.string l[k]) := by
  unfold strRow
  rw [List.getElem?_map, List.getElem?_eq_getElem h]
  rfl
theorem fltRow_at : ∀ (l : List Flt) (k : Nat) (h : k < l.length) (j : Nat) (v : Value), (fltCells l[k])[j]? = some v → (fltRow l)[k * 6 + j]? = some v
  | [], k, h, _, _, _ => by simp at h
  | x :: l, 0, h, j, v, hv => by
    have hv' : (fltCells x)[j]? = some v := hv
    show (fltCells x ++ fltRow l)[0 * 6 + j]? = _
    rw [Nat.zero_mul, Nat.zero_add, List.getElem?_append_left (List.getElem?_eq_some_iff.1 hv').1]
    exact hv'
  | x :: l, k + 1, h, j, v, hv => by
    show (fltCells x ++ fltRow l)[(k + 1) * 6 + j]? = _
    rw [show (k + 1) * 6 + j = 6 + (k * 6 + j) from by omega, List.getElem?_append_right (by simp [fltCells]), show (fltCells x).length = 6 from rfl, Nat.add_sub_cancel_left]
    exact fltRow_at l k (by simpa using h) j v hv
set_option maxHeartbeats 4000000 in
theorem rvalid_bad (d : Dv) (pa ua fa : Option Addr) (pc uc fc : Nat) (w : World) (hr : numsB d = false) :
    Calls Try.prog 23 #[.agg #[.slice pa d.pages.length pc, .int .i64 d.writes, .slice ua d.unread.length uc, .bool d.dead, .slice fa d.faults.length fc]] w fun e w' => e = .returned (.bool (dvOkB d)) ∧ Below w.heap.size w w' := by
  have HF : Hid (dvOkB d = false) := by show _ = _; unfold dvOkB; rw [hr]; rfl
  have fin : Hid (∀ W, W = (w.alloc (.cells #[.slice pa d.pages.length pc, .int .i64 d.writes, .slice ua d.unread.length uc, .bool d.dead, .slice fa d.faults.length fc] 27)) → Below w.heap.size w W) := by
    rintro W rfl
    exact (Below.refl _ _).alloc (Nat.le_refl _) _
  unfold numsB at hr
  generalize d.pages.length = n at *
  generalize d.writes = wr at *
  generalize d.faults.length = m at *
  by_cases c1 : (n : Int) < 1
  · clear hr
    go_enter Try.func23, Try.ntmps23
    go_wp2
    go_ret
    exact ⟨by rw [HF.out]; rfl, fin.out _ rfl⟩
  by_cases c2 : 64 < (n : Int)
  · clear hr
    go_enter Try.func23, Try.ntmps23
    go_wp2
    go_ret
    exact ⟨by rw [HF.out]; rfl, fin.out _ rfl⟩
  by_cases c3 : wr < 0
  · clear hr
    go_enter Try.func23, Try.ntmps23
    go_wp2
    go_ret
    exact ⟨by rw [HF.out]; rfl, fin.out _ rfl⟩
  by_cases c4 : 1099511627776 < wr
  · clear hr
    go_enter Try.func23, Try.ntmps23
    go_wp2
    go_ret
    exact ⟨by rw [HF.out]; rfl, fin.out _ rfl⟩
  by_cases c5 : 64 < (m : Int)
  · clear hr
    go_enter Try.func23, Try.ntmps23
    go_wp2
    go_ret
    exact ⟨by rw [HF.out]; rfl, fin.out _ rfl⟩
  · exact absurd hr (by simp [c1, c2, c3, c4, c5])
set_option maxHeartbeats 16000000 in
set_option maxRecDepth 20000 in
theorem rvalid_good (d : Dv) (pa ua fa : Option Addr) (pc uc fc : Nat) (w : World) (hr : numsB d = true) (hc : d.unread.length ≤ 1000)
    (hp : 0 < d.pages.length → ∃ g off, pa = some ⟨g, off, none⟩ ∧ ∀ W, Below w.heap.size w W → W.rangeAt g off (strRow d.pages))
    (hu : 0 < d.unread.length → ∃ g off, ua = some ⟨g, off, none⟩ ∧ ∀ W, Below w.heap.size w W → W.rangeAt g off (intRow d.unread))
    (hf : 0 < d.faults.length → ∃ g off, fa = some ⟨g, off, none⟩ ∧ ∀ W, Below w.heap.size w W → W.rangeAt g off (fltRow d.faults))
    (hcp : d.pages.length ≤ pc ∧ d.unread.length ≤ uc ∧ d.faults.length ≤ fc) (hg : ∀ x ∈ d.faults, GoodFlt x) (hs256 : ∀ s ∈ d.pages, s.size ≤ maxLen) :
    Calls Try.prog 23 #[.agg #[.slice pa d.pages.length pc, .int .i64 d.writes, .slice ua d.unread.length uc, .bool d.dead, .slice fa d.faults.length fc]] w fun e w' => e = .returned (.bool (dvOkB d)) ∧ Below w.heap.size w w' := by
  have HN : Hid (dvOkB d = (pagesB d && (unreadB d && faultsB d))) := by show _ = _; unfold dvOkB; rw [hr]; rfl
  have HP := Lib.hid hp
  have HU := Lib.hid hu
  have HFr := Lib.hid hf
  have HG := Lib.hid hg
  have HS := Lib.hid hs256
  have HUl := Lib.hid hc
  have HCp := Lib.hid hcp
  obtain ⟨fs, hud⟩ := under_dv
  have HUD := Lib.hid hud
  obtain ⟨fs', huf⟩ := under_flt
  have HUF := Lib.hid huf
  unfold numsB at hr
  clear hp hu hf hg hs256 hud huf hc hcp
  simp only [Bool.and_eq_true, Bool.not_eq_true', decide_eq_false_iff_not] at hr
  obtain ⟨c1, c2, c3, c4, c5⟩ := hr
  have hn64 : (d.pages.length : Int) ≤ 64 := by omega
  have hm64 : (d.faults.length : Int) ≤ 64 := by omega
  have h1 := (Hp.start w).put 27 (dvCells (.slice pa d.pages.length pc) d (.slice ua d.unread.length uc) (.slice fa d.faults.length fc))
  have HS0 : Hid (Hp w [.ob w.heap.size 27 (dvCells (.slice pa d.pages.length pc) d (.slice ua d.unread.length uc) (.slice fa d.faults.length fc))] (w.alloc (.cells #[.slice pa d.pages.length pc, .int .i64 d.writes, .slice ua d.unread.length uc, .bool d.dead, .slice fa d.faults.length fc] 27))) := h1
  clear h1
  go_enter Try.func23, Try.ntmps23
  go_wp2_with fail
  clear c1 c2 c3 c4 c5
  go_loopw [4] (fun i wr => ∃ k : Nat, k ≤ d.pages.length ∧ i = .int .i64 k ∧ (d.pages.take k).all (fun s => decide (s.size = 256)) = true ∧ Hp w [.ob w.heap.size 27 (dvCells (.slice pa d.pages.length pc) d (.slice ua d.unread.length uc) (.slice fa d.faults.length fc))] wr) (fun i _ => d.pages.length - (intOf i).toNat)
  case atStart => exact ⟨0, by omega, rfl, rfl, HS0.out⟩
  case round =>
    obtain ⟨k, hk, rfl, hh, hs⟩ := hrel
    clear HS0
    have HY := Lib.hid hs
    have HH := Lib.hid hh
    clear hs hh
    have b0 : wr.cell? ⟨w.heap.size, 0, none⟩ = some (.slice pa d.pages.length pc) := HY.out.at 0 rfl 0 rfl
    have b2 : wr.cell? ⟨w.heap.size, 2, none⟩ = some (.slice ua d.unread.length uc) := HY.out.at 0 rfl 2 rfl
    by_cases hlt : k < d.pages.length
    · obtain ⟨g, off, rfl, hr⟩ := HP.out (by omega)
      have hcell : wr.cell? ⟨g, off + k, none⟩ = some (.string d.pages[k]) := hr wr HY.out.old k _ (strRow_at d.pages k hlt)
      have hki : (k : Int) < (d.pages.length : Int) := by omega
      have hk0 : (0 : Int) ≤ (k : Int) := by omega
      have hkm : (k : Int) < 1000 := by omega
      have hsz : (d.pages[k].size : Int) ≤ 9223372036854775807 := by have := HS.out _ (List.getElem_mem hlt); unfold maxLen at this; omega
      by_cases hx : d.pages[k].size = 256
      · have hxb : ((d.pages[k].size : Int) != 256) = false := by simp [hx]
        have HX := Lib.hid (all_take (f := fun s => decide (s.size = 256)) hlt HH.out (by simp [hx]))
        clear hr hx hsz
        generalize d.pages[k] = y at *
        go_wp2_with fail
        go_roundw
        case rel => exact ⟨k + 1, by omega, by go_num, HX.out, HY.out⟩
        case measure => simp [intOf]; omega
      · have hxb : ((d.pages[k].size : Int) != 256) = true := by simp; omega
        have HX : Hid (pagesB d = false) := by
          show _ = _
          exact all_no (f := fun s => decide (s.size = 256)) hlt (by simp [hx])
        clear hr hx hsz
        generalize d.pages[k] = y at *
        go_wp2_with fail
        go_ret
        exact ⟨by rw [HN.out, HX.out]; rfl, HY.out.old⟩
    · obtain rfl : k = d.pages.length := by omega
      rw [List.take_length] at HH
      have HPg : Hid (pagesB d = true) := HH.out
      clear HH hk hlt
      go_wp2_with fail
      go_loopw [5] (fun i wr => ∃ k : Nat, k ≤ d.unread.length ∧ i = .int .i64 k ∧ (List.range k).all (unreadAtB d.pages.length d.unread) = true ∧ Hp w [.ob w.heap.size 27 (dvCells (.slice pa d.pages.length pc) d (.slice ua d.unread.length uc) (.slice fa d.faults.length fc))] wr) (fun i _ => d.unread.length - (intOf i).toNat)
      case atStart => exact ⟨0, by omega, rfl, rfl, HY.out⟩
      case round =>
        clear HY b0 b2
        rename_i wr0 _ _ _ wr
        obtain ⟨k, hk, rfl, hh, hs⟩ := hrel
        have HY := Lib.hid hs
        have HH := Lib.hid hh
        clear hs hh
        have b2 : wr.cell? ⟨w.heap.size, 2, none⟩ = some (.slice ua d.unread.length uc) := HY.out.at 0 rfl 2 rfl
        have b4 : wr.cell? ⟨w.heap.size, 4, none⟩ = some (.slice fa d.faults.length fc) := HY.out.at 0 rfl 4 rfl
        by_cases hlt : k < d.unread.length
        · obtain ⟨g, off, rfl, hr⟩ := HU.out (by omega)
          obtain ⟨y, hy⟩ : ∃ y, d.unread[k] = y := ⟨_, rfl⟩
          have hcell : wr.cell? ⟨g, off + k, none⟩ = some (.int .i64 y) := by rw [← hy]; exact hr wr HY.out.old k _ (intRow_at d.unread k hlt)
          have hyD : d.unread.getD k 0 = y := by rw [List.getD_eq_getElem?_getD, List.getElem?_eq_getElem hlt]; exact hy
          have hki : (k : Int) < (d.unread.length : Int) := by omega
          have hk0 : (0 : Int) ≤ (k : Int) := by omega
          have hkm : (k : Int) < 1000 := by have := HUl.out; omega
          have HB := Lib.hid (fun q => HY.out.drewN q)
          have HNo : Hid (unreadAtB d.pages.length d.unread k = false → unreadB d = false) := fun h => range_no hlt h
          have HYes : Hid (unreadAtB d.pages.length d.unread k = true → (List.range (k + 1)).all (unreadAtB d.pages.length d.unread) = true) := fun h => range_take HH.out h
          by_cases hA : y < 0
          · have dA : decide (y < 0) = true := decide_eq_true hA
            have HX := Lib.hid (HNo.out (by unfold unreadAtB; rw [hyD]; simp [hA]))
            clear hr hA hy hyD HYes HNo
            go_wp2_with fail
            go_quiet (fail)
            go_wp2_with fail
            go_ret
            exact ⟨by rw [HN.out, HPg.out, HX.out]; rfl, (HB.out _).old⟩
          · have dA : decide (y < 0) = false := decide_eq_false hA
            by_cases hB : (d.pages.length : Int) ≤ y
            · have dB : decide ((d.pages.length : Int) ≤ y) = true := decide_eq_true hB
              have HX := Lib.hid (HNo.out (by unfold unreadAtB; rw [hyD]; simp [hB]))
              clear hr hA hB hy hyD HYes HNo
              go_wp2_with fail
              go_quiet (fail)
              go_wp2_with fail
              go_ret
              exact ⟨by rw [HN.out, HPg.out, HX.out]; rfl, (HB.out _).old⟩
            · have dB : decide ((d.pages.length : Int) ≤ y) = false := decide_eq_false hB
              by_cases hC : 0 < k
              case neg =>
                have HX := Lib.hid (HYes.out (by unfold unreadAtB; rw [hyD]; simp [hA, hB, hC]))
                have dC : decide ((0 : Int) < (k : Int)) = false := decide_eq_false (by omega)
                have dC2 : decide (0 < k) = false := decide_eq_false hC
                have hkz : k = 0 := by omega
                clear hr hA hB hC hy hyD HYes HNo hkz
                go_wp2_with fail
                go_quiet (fail)
                go_wp2_with fail
                go_roundw
                case rel => exact ⟨_, by omega, by go_num, HX.out, HB.out _⟩
                case measure => simp [intOf]; omega
              case pos =>
                obtain ⟨j, rfl⟩ : ∃ j, k = j + 1 := ⟨k - 1, by omega⟩
                have hjl : j < d.unread.length := by omega
                obtain ⟨x, hx⟩ : ∃ x, d.unread[j] = x := ⟨_, rfl⟩
                have hcell2 : wr.cell? ⟨g, off + j, none⟩ = some (.int .i64 x) := by rw [← hx]; exact hr wr HY.out.old j _ (intRow_at d.unread j hjl)
                have hxD : d.unread.getD j 0 = x := by rw [List.getD_eq_getElem?_getD, List.getElem?_eq_getElem hjl]; exact hx
                have hj1 : IntKind.i64.wrap (((j + 1 : Nat) : Int) - 1) = (j : Int) := by rw [show ((j + 1 : Nat) : Int) - 1 = (j : Int) from by omega]; exact IntWalk.i64_in _ (by omega)
                have hji : (j : Int) < (d.unread.length : Int) := by omega
                have hj0 : (0 : Int) ≤ (j : Int) := by omega
                have dC : decide ((0 : Int) < ((j + 1 : Nat) : Int)) = true := decide_eq_true (by omega)
                by_cases hD : y ≤ x
                · have dD : decide (y ≤ x) = true := decide_eq_true hD
                  have HX := Lib.hid (HNo.out (by unfold unreadAtB; rw [hyD, Nat.add_sub_cancel, hxD]; simp [hD]))
                  clear hr hA hB hD hy hyD hx hxD HYes HNo
                  go_wp2_with fail
                  go_quiet (fail)
                  go_wp2_with fail
                  go_ret
                  exact ⟨by rw [HN.out, HPg.out, HX.out]; rfl, (HB.out _).old⟩
                · have dD : decide (y ≤ x) = false := decide_eq_false hD
                  have HX := Lib.hid (HYes.out (by unfold unreadAtB; rw [hyD, Nat.add_sub_cancel, hxD]; simp [hA, hB, hD]))
                  clear hr hA hB hD hy hyD hx hxD HYes HNo
                  go_wp2_with fail
                  go_quiet (fail)
                  go_wp2_with fail
                  go_roundw
                  case rel => exact ⟨_, by omega, by go_num, HX.out, HB.out _⟩
                  case measure => simp [intOf]; omega
        · obtain rfl : k = d.unread.length := by omega
          have HUn : Hid (unreadB d = true) := HH.out
          clear HH hk hlt
          go_wp2_with fail
          go_loopw [6] (fun i wr => ∃ k : Nat, k ≤ d.faults.length ∧ i = .int .i64 k ∧ (d.faults.take k).all (fltOkB d.pages.length d.writes) = true ∧ Hp w [.ob w.heap.size 27 (dvCells (.slice pa d.pages.length pc) d (.slice ua d.unread.length uc) (.slice fa d.faults.length fc))] wr) (fun i _ => d.faults.length - (intOf i).toNat)
          case atStart => exact ⟨0, by omega, rfl, rfl, HY.out⟩
          case round =>
            clear HY b2 b4
            rename_i wr0 _ _ _ wr
            obtain ⟨k, hk, rfl, hh, hs⟩ := hrel
            have HY := Lib.hid hs
            have HH := Lib.hid hh
            clear hs hh
            have b4 : wr.cell? ⟨w.heap.size, 4, none⟩ = some (.slice fa d.faults.length fc) := HY.out.at 0 rfl 4 rfl
            by_cases hlt : k < d.faults.length
            · obtain ⟨g, off, rfl, hr⟩ := HFr.out (by omega)
              obtain ⟨x, hx⟩ : ∃ x, d.faults[k] = x := ⟨_, rfl⟩
              have HRg : Hid (∀ W, Below w.heap.size w W → W.rangeAt g (off + k * 6) (fltCells x)) := fun W hb j v hv => by
                have := hr W hb (k * 6 + j) v (fltRow_at d.faults k hlt j v (by rw [hx]; exact hv))
                rw [Nat.add_assoc]
                exact this
              have HNo : Hid (fltOkB d.pages.length d.writes x = false → faultsB d = false) := fun h => all_no (f := fltOkB d.pages.length d.writes) hlt (by rw [hx]; exact h)
              have HYes : Hid (fltOkB d.pages.length d.writes x = true → (d.faults.take (k + 1)).all (fltOkB d.pages.length d.writes) = true) := fun h => all_take (f := fltOkB d.pages.length d.writes) hlt HH.out (by rw [hx]; exact h)
              have hGx : GoodFlt x := HG.out x (by rw [← hx]; exact List.getElem_mem hlt)
              have HVx : Hid (∀ W, Calls Try.prog 53 #[.agg (dvCells (.slice pa d.pages.length pc) d (.slice ua d.unread.length uc) (.slice (some ⟨g, off, none⟩) d.faults.length fc)).toArray, .agg (fltCells x).toArray] W fun e w' => e = .returned (.bool (fltOkB d.pages.length d.writes x)) ∧ Below W.heap.size W w') := fun W => rfault_any pa d.pages.length pc d.writes _ d.dead _ x W hGx
              have hki : (k : Int) < (d.faults.length : Int) := by omega
              have hk0 : (0 : Int) ≤ (k : Int) := by omega
              have hkm : (k : Int) < 1000 := by omega
              clear hr hx hGx
              generalize fltOkB d.pages.length d.writes x = vb at *
              go_upto_region 17 with (fail)
              refine wp_region_held_drew (S := fun w' => w'.rangeAt w.heap.size 0 (dvCells (.slice pa d.pages.length pc) d (.slice ua d.unread.length uc) (.slice (some ⟨g, off, none⟩) d.faults.length fc)) ∧ w'.rangeAt g (off + k * 6) (fltCells x)) (by kernel_rfl) (⟨fun j v hv => by rw [Nat.zero_add]; exact (HY.out.drew).at 0 rfl j hv, HRg.out _ (HY.out.drew).old⟩) (fun hHeld => ?_)
              refine wpAnyH_take (i := 0) (oi := { dst := some 91, op := Op.load 27 (Operand.tmp 1), type := 27, pos := "ref.go:65", after := #[], guard := none }) rfl (by kernel_rfl) (by kernel_rfl) (by kernel_rfl) (fun _ _ _ h => h) (yieldsIf_load_mid (by rfl) 27 (.tmp 1) rfl w.heap.size (0) rfl (dvCells (.slice pa d.pages.length pc) d (.slice ua d.unread.length uc) (.slice (some ⟨g, off, none⟩) d.faults.length fc)) _ (fun _ h => h.1) HUD.out rfl (info_dv)) hHeld ?_
              try simp only [Act.put, List.setIfInBounds_toArray, List.set_cons_zero, List.set_cons_succ]
              refine wpAnyH_take (i := 1) (oi := { dst := some 92, op := Op.fieldAddr 27 (Operand.tmp 1) 4, type := 0, pos := "ref.go:65", after := #[], guard := none }) (v := ?q2v) rfl (by kernel_rfl) (by kernel_rfl) (by kernel_rfl) (fun _ _ _ h => h) (Or.inl ⟨by rfl, ?q2h⟩) hHeld ?q2r
              case q2h => (intro wq hSw; clear hSw; go_simp; try with_reducible rfl)
              try simp only [Act.put, List.setIfInBounds_toArray, List.set_cons_zero, List.set_cons_succ]
              refine wpAnyH_take (i := 2) (oi := { dst := some 93, op := Op.load 25 (Operand.tmp 92), type := 25, pos := "ref.go:65", after := #[{ on := 1, ground := Ground.data }], guard := none }) (v := ?q3v) rfl (by kernel_rfl) (by kernel_rfl) (by kernel_rfl) (fun _ _ _ h => h) (Or.inl ⟨by rfl, ?q3h⟩) hHeld ?q3r
              case q3h => (intro wq hSw; have hq := hSw.1 4 _ rfl; simp only [Nat.zero_add] at hq; go_simp; try with_reducible rfl)
              try simp only [Act.put, List.setIfInBounds_toArray, List.set_cons_zero, List.set_cons_succ]
              refine wpAnyH_take (i := 3) (oi := { dst := some 94, op := Op.move (Operand.tmp 6), type := 3, pos := "ref.go:65", after := #[], guard := none }) (v := ?q4v) rfl (by kernel_rfl) (by kernel_rfl) (by kernel_rfl) (fun _ _ _ h => h) (Or.inl ⟨by rfl, ?q4h⟩) hHeld ?q4r
              case q4h => (intro wq hSw; clear hSw; go_simp; try with_reducible rfl)
              try simp only [Act.put, List.setIfInBounds_toArray, List.set_cons_zero, List.set_cons_succ]
              refine wpAnyH_take (i := 4) (oi := { dst := some 95, op := Op.indexAddr 25 (Operand.tmp 93) (Operand.tmp 94), type := 0, pos := "ref.go:65", after := #[{ on := 2, ground := Ground.data }, { on := 3, ground := Ground.data }], guard := none }) (v := ?q5v) rfl (by kernel_rfl) (by kernel_rfl) (by kernel_rfl) (fun _ _ _ h => h) (Or.inl ⟨by rfl, ?q5h⟩) hHeld ?q5r
              case q5h => (intro wq hSw; clear hSw; go_simp; try with_reducible rfl)
              try simp only [Act.put, List.setIfInBounds_toArray, List.set_cons_zero, List.set_cons_succ]
              refine wpAnyH_take (i := 5) (oi := { dst := some 96, op := Op.load 29 (Operand.tmp 95), type := 29, pos := "ref.go:65", after := #[{ on := 4, ground := Ground.data }], guard := none }) rfl (by kernel_rfl) (by kernel_rfl) (by kernel_rfl) (fun _ _ _ h => h) (yieldsIf_load_mid (by rfl) 29 (.tmp 95) rfl g (off + k * 6) rfl (fltCells x) _ (fun _ h => h.2) HUF.out rfl (info_flt)) hHeld ?_
              try simp only [Act.put, List.setIfInBounds_toArray, List.set_cons_zero, List.set_cons_succ]
              refine wpAnyH_ready (rs := [6]) (by kernel_rfl) (by simp) ?_
              refine AllReadyH.cons (o := { dst := some 97, op := Op.call { callee := Callee.value (Operand.func 53), args := #[Operand.tmp 91, Operand.tmp 96], argTypes := #[27, 29] }, type := 4, pos := "ref.go:65", after := #[{ on := 0, ground := Ground.data }, { on := 5, ground := Ground.data }], guard := none }) rfl (fun K hK => ?_) (AllReadyH.nil)
              go_simp
              go_wp2_with (go_at_call 53; refine (HVx.out _).mono ?_; rintro e w21 ⟨rfl, hb⟩)
              have HS21 : Hid (Hp w [.ob (w.heap.size) 27 (dvCells (.slice pa d.pages.length pc) d (.slice ua d.unread.length uc) (.slice (some ⟨g, off, none⟩) d.faults.length fc))] w21) := ((HY.out).drew).calls hb
              refine hK.out _ _ (⟨fun j v hv => by rw [Nat.zero_add]; exact HS21.out.at 0 rfl j hv, HRg.out _ HS21.out.old⟩) (fun hHeld => ?_)
              clear hK K hb
              try simp only [Act.put, List.setIfInBounds_toArray, List.set_cons_zero, List.set_cons_succ]
              refine wpAnyH_take (i := 7) (oi := { dst := some 98, op := Op.unOp UnOp.not 4 (Operand.tmp 97), type := 4, pos := "ref.go:65", after := #[{ on := 6, ground := Ground.data }], guard := none }) (v := ?q7v) rfl (by kernel_rfl) (by kernel_rfl) (by kernel_rfl) (fun _ _ _ h => h) (Or.inl ⟨by rfl, ?q7h⟩) hHeld ?q7r
              case q7h => (intro wq hSw; clear hSw; go_simp; try with_reducible rfl)
              try simp only [Act.put, List.setIfInBounds_toArray, List.set_cons_zero, List.set_cons_succ]
              refine wpAnyH_done (by kernel_rfl) ?_ _
              cases vb
              · have HX := Lib.hid (HNo.out rfl)
                go_wp2_with fail
                go_ret
                exact ⟨by rw [HN.out, HPg.out, HUn.out, HX.out]; rfl, HS21.out.old⟩
              · have HX := Lib.hid (HYes.out rfl)
                go_wp2_with fail
                go_roundw
                case rel => exact ⟨k + 1, by omega, by go_num, HX.out, HS21.out⟩
                case measure => simp [intOf]; omega
            · obtain rfl : k = d.faults.length := by omega
              rw [List.take_length] at HH
              have HFt : Hid (faultsB d = true) := HH.out
              clear HH hk hlt
              go_wp2_with fail
              go_ret
              exact ⟨by rw [HN.out, HPg.out, HUn.out, HFt.out]; rfl, HY.out.old⟩
theorem rvalid_any {p u f : Value} {d : Dv} {R : List Rng} (w : World) (h : DvRd p u f d R) (hR : RdIn w R) (hg : ∀ x ∈ d.faults, GoodFlt x) (hs : ∀ s ∈ d.pages, s.size ≤ maxLen) (hl : d.unread.length ≤ 1000) :
    Calls Try.prog 23 #[.agg (dvCells p d u f).toArray] w fun e w' => e = .returned (.bool (dvOkB d)) ∧ Below w.heap.size w w' := by
  obtain ⟨pa, pc, rfl, p1, _, p2⟩ := h.pages.open hR
  obtain ⟨ua, uc, rfl, u1, _, u2⟩ := h.unread.open hR
  obtain ⟨fa, fc, rfl, f1, _, f2⟩ := h.faults.open hR
  cases hr : numsB d
  · exact rvalid_bad d pa ua fa pc uc fc w hr
  · exact rvalid_good d pa ua fa pc uc fc w hr hl p2.out u2.out f2.out ⟨p1, u1, f1⟩ hg hs
end Go.Proofs.Ythcjkbhkidijoaa
/- the walks of the reference's usable and Read -/
namespace Go.Proofs.Ythcjkbhkidijoaa
open Go.RowKit
set_option maxRecDepth 20000

/-- a device that a value of the program can be, and of which a walk is made -/
structure GoodDv (d : Dv) : Prop where
  faults : ∀ x ∈ d.faults, GoodFlt x
  pages : ∀ s ∈ d.pages, s.size ≤ maxLen
  unread : d.unread.length ≤ 1000
set_option maxHeartbeats 4000000 in
theorem rusable_any {p u f : Value} {d : Dv} {R : List Rng} (page : Int) (w : World) (h : DvRd p u f d R) (hR : RdIn w R) (hg : GoodDv d) :
    Calls Try.prog 47 #[.agg (dvCells p d u f).toArray, .int .i64 page] w fun e w' => e = .returned (.int .i64 (usableR d page)) ∧ Below w.heap.size w w' := by
  have HV : Hid (∀ W, Below w.heap.size w W → Calls Try.prog 23 #[.agg (dvCells p d u f).toArray] W fun e w' => e = .returned (.bool (dvOkB d)) ∧ Below W.heap.size W w') := fun W hb => rvalid_any W h (hR.below hb) hg.faults hg.pages hg.unread
  obtain ⟨fs, hud⟩ := under_dv
  have HUD := Lib.hid hud
  clear hud
  obtain ⟨pa, pc, rfl, p1, _, p2⟩ := h.pages.open hR
  obtain ⟨ua, uc, rfl, u1, _, u2⟩ := h.unread.open hR
  obtain ⟨fa, fc, rfl, f1, _, f2⟩ := h.faults.open hR
  clear h hR hg p2 u2 f2
  have h1 := (Hp.start w).put 27 (dvCells (.slice pa d.pages.length pc) d (.slice ua d.unread.length uc) (.slice fa d.faults.length fc))
  have HS0 : Hid (Hp w [.ob w.heap.size 27 (dvCells (.slice pa d.pages.length pc) d (.slice ua d.unread.length uc) (.slice fa d.faults.length fc))] (w.alloc (.cells (dvCells (.slice pa d.pages.length pc) d (.slice ua d.unread.length uc) (.slice fa d.faults.length fc)).toArray 27))) := h1
  clear h1
  have HUs : Hid (∀ n, usableR d page = n → Ending.returned (Value.int .i64 n) = .returned (.int .i64 (usableR d page))) := fun n hn => by rw [hn]
  go_enter Try.func47, Try.ntmps47
  go_wp2_with (first | ((with_reducible refine wpList_load_ob 27 (.tmp 2) (w.heap.size) (dvCells (.slice pa d.pages.length pc) d (.slice ua d.unread.length uc) (.slice fa d.faults.length fc)) 27 HUD.out ?_ ?_ ?_ ?_ ?_); (exact rfl); (exact (HS0.out).get 0 rfl); (exact rfl); (exact info_dv); simp only [Act.put, List.setIfInBounds_toArray, List.set_cons_zero, List.set_cons_succ]))
  refine (HV.out _ HS0.out.old).mono ?_
  rintro e w3 ⟨rfl, hb⟩
  have HS2 : Hid (Hp w [.ob (w.heap.size) 27 (dvCells (.slice pa d.pages.length pc) d (.slice ua d.unread.length uc) (.slice fa d.faults.length fc))] w3) := (HS0.out).calls hb
  clear hb
  clear HS0
  clear HV
  have b0 : w3.cell? ⟨w.heap.size, 0, none⟩ = some (.slice pa d.pages.length pc) := HS2.out.at 0 rfl 0 rfl
  have b3 : w3.cell? ⟨w.heap.size, 3, none⟩ = some (.bool d.dead) := HS2.out.at 0 rfl 3 rfl
  cases hv : dvOkB d
  · have HX : Hid (dvOkB d = false) := hv
    go_wp2_with fail
    go_ret
    exact ⟨HUs.out _ (by unfold usableR; simp [HX.out]), HS2.out.old⟩
  · have HX : Hid (dvOkB d = true) := hv
    cases hd : d.dead
    · have HD : Hid (d.dead = false) := hd
      rw [hd] at b3
      by_cases h1 : page < 0
      · have HP : Hid (page < 0) := h1
        go_wp2_with fail
        go_ret
        exact ⟨HUs.out _ (by unfold usableR; simp [HX.out, HD.out, HP.out]), HS2.out.old⟩
      · have HP : Hid (¬ page < 0) := h1
        by_cases h2 : (d.pages.length : Int) ≤ page
        · have HQ : Hid ((d.pages.length : Int) ≤ page) := h2
          go_wp2_with fail
          go_ret
          exact ⟨HUs.out _ (by unfold usableR; simp [HX.out, HD.out, HQ.out]), HS2.out.old⟩
        · have HQ : Hid (¬ (d.pages.length : Int) ≤ page) := h2
          go_wp2_with fail
          go_ret
          exact ⟨HUs.out _ (by unfold usableR; simp [HX.out, HD.out, HP.out, HQ.out]), HS2.out.old⟩
    · have HD : Hid (d.dead = true) := hd
      rw [hd] at b3
      go_wp2_with fail
      go_ret
      exact ⟨HUs.out _ (by unfold usableR; simp [HX.out, HD.out]), HS2.out.old⟩
theorem usable_ok {d : Dv} {page : Int} (h : usableR d page = 0) : dvOkB d = true ∧ d.dead = false ∧ 0 ≤ page ∧ page < (d.pages.length : Int) := by
  unfold usableR at h
  split at h
  · cases h
  · rename_i h1
    split at h
    · cases h
    · rename_i h2
      split at h
      · cases h
      · rename_i h3
        exact ⟨by simpa using h1, by simpa using h2, by omega, by omega⟩
theorem Hp.rng {w W : World} {L : List Th} (h : Hp w L W) {R : List Rng} (hR : RdIn w R) : RdIn W R := hR.below h.old
set_option maxHeartbeats 4000000 in
theorem rread_any {p u f : Value} {d : Dv} {R : List Rng} (page : Int) (w : World) (h : DvRd p u f d R) (hR : RdIn w R) (hg : GoodDv d) :
    Calls Try.prog 32 #[.agg (dvCells p d u f).toArray, .int .i64 page] w fun e w' => e = .returned (.tuple #[.string (readR d page).1, .int .i64 (readR d page).2]) ∧ Below w.heap.size w w' := by
  have HV : Hid (∀ W, Below w.heap.size w W → Calls Try.prog 47 #[.agg (dvCells p d u f).toArray, .int .i64 page] W fun e w' => e = .returned (.int .i64 (usableR d page)) ∧ Below W.heap.size W w') := fun W hb => rusable_any page W h (hR.below hb) hg
  have HHas : Hid (∀ W, Below w.heap.size w W → Calls Try.prog 57 #[u, .int .i64 page] W fun e w' => e = .returned (.bool (hasB d.unread page)) ∧ Below W.heap.size W w') := fun W hb => has_any d.unread page u R W h.unread (hR.below hb)
  obtain ⟨fs, hud⟩ := under_dv
  have HUD := Lib.hid hud
  clear hud
  obtain ⟨pa, pc, rfl, p1, _, p2⟩ := h.pages.open hR
  obtain ⟨ua, uc, rfl, u1, _, u2⟩ := h.unread.open hR
  obtain ⟨fa, fc, rfl, f1, _, f2⟩ := h.faults.open hR
  clear h hR hg u2 f2
  have h1 := (Hp.start w).put 27 (dvCells (.slice pa d.pages.length pc) d (.slice ua d.unread.length uc) (.slice fa d.faults.length fc))
  have HS0 : Hid (Hp w [.ob w.heap.size 27 (dvCells (.slice pa d.pages.length pc) d (.slice ua d.unread.length uc) (.slice fa d.faults.length fc))] (w.alloc (.cells (dvCells (.slice pa d.pages.length pc) d (.slice ua d.unread.length uc) (.slice fa d.faults.length fc)).toArray 27))) := h1
  clear h1
  have HUs : Hid (∀ s n, readR d page = (s, n) → Ending.returned (Value.tuple #[.string s, .int .i64 n]) = .returned (.tuple #[.string (readR d page).1, .int .i64 (readR d page).2])) := fun s n hn => by rw [hn]
  go_enter Try.func32, Try.ntmps32
  go_wp2_with (first | ((with_reducible refine wpList_load_ob 27 (.tmp 2) (w.heap.size) (dvCells (.slice pa d.pages.length pc) d (.slice ua d.unread.length uc) (.slice fa d.faults.length fc)) 27 HUD.out ?_ ?_ ?_ ?_ ?_); (exact rfl); (exact (HS0.out).get 0 rfl); (exact rfl); (exact info_dv); simp only [Act.put, List.setIfInBounds_toArray, List.set_cons_zero, List.set_cons_succ]))
  refine (HV.out _ HS0.out.old).mono ?_
  rintro e w3 ⟨rfl, hb⟩
  have HS2 : Hid (Hp w [.ob (w.heap.size) 27 (dvCells (.slice pa d.pages.length pc) d (.slice ua d.unread.length uc) (.slice fa d.faults.length fc))] w3) := (HS0.out).calls hb
  clear hb
  clear HS0
  clear HV
  by_cases h0 : usableR d page = 0
  case neg =>
    have HX : Hid (¬ usableR d page = 0) := h0
    have hq : (usableR d page != 0) = true := by rw [bne_iff_ne]; exact h0
    go_wp2_with fail
    exact bodyPost_ret (v := .tuple #[.string ⟨#[]⟩, .int .i64 (usableR d page)]) (by simp [results, Try.results32, go_sem]) rfl ⟨HUs.out _ _ (by unfold readR; rw [if_pos HX.out]), HS2.out.old⟩
  case pos =>
    obtain ⟨_, _, g0, g1⟩ := usable_ok h0
    have HX : Hid (usableR d page = 0) := h0
    have hq : (usableR d page != 0) = false := by rw [h0]; rfl
    obtain ⟨k, rfl⟩ := Int.eq_ofNat_of_zero_le g0
    have hkn : k < d.pages.length := by omega
    have b2 : w3.cell? ⟨w.heap.size, 2, none⟩ = some (.slice ua d.unread.length uc) := HS2.out.at 0 rfl 2 rfl
    have HKn := Lib.hid hkn
    go_wp2_with fail
    refine (HHas.out _ HS2.out.old).mono ?_
    rintro e w4 ⟨rfl, hb⟩
    have HS3 : Hid (Hp w [.ob (w.heap.size) 27 (dvCells (.slice pa d.pages.length pc) d (.slice ua d.unread.length uc) (.slice fa d.faults.length fc))] w4) := (HS2.out).calls hb
    clear hb
    clear HS2
    clear HHas
    cases hh : hasB d.unread (k : Int)
    case true =>
      have HH : Hid (hasB d.unread (k : Int) = true) := hh
      go_wp2_with fail
      exact bodyPost_ret (v := .tuple #[.string ⟨#[]⟩, .int .i64 11]) (by simp [results, Try.results32, go_sem]) rfl ⟨HUs.out _ _ (by unfold readR; rw [if_neg (by rw [HX.out]; simp), if_pos HH.out]), HS3.out.old⟩
    case false =>
      have HH : Hid (¬ hasB d.unread (k : Int) = true) := by show ¬ _; rw [hh]; decide
      obtain ⟨g, off, rfl, hr⟩ := p2.out (by omega)
      obtain ⟨y, hy⟩ : ∃ y, d.pages[k] = y := ⟨_, rfl⟩
      have HYd : Hid (d.pages.getD (Int.toNat (k : Int)) ⟨#[]⟩ = y) := by show _ = _; rw [Int.toNat_natCast, List.getD_eq_getElem?_getD, List.getElem?_eq_getElem hkn]; exact hy
      have hcell : w4.cell? ⟨g, off + k, none⟩ = some (.string y) := by rw [← hy]; exact hr _ HS3.out.old k _ (strRow_at d.pages k hkn)
      have b0 : w4.cell? ⟨w.heap.size, 0, none⟩ = some (.slice (some ⟨g, off, none⟩) d.pages.length pc) := HS3.out.at 0 rfl 0 rfl
      clear hr hy
      go_wp2_with fail
      exact bodyPost_ret (v := .tuple #[.string y, .int .i64 0]) (by simp [results, Try.results32, go_sem]) rfl ⟨HUs.out _ _ (by unfold readR; rw [if_neg (by rw [HX.out]; simp), if_neg HH.out, HYd.out]), HS3.out.old⟩
end Go.Proofs.Ythcjkbhkidijoaa
/- the library's search through faults, by whatever function that reads -/
namespace Go.Proofs.Ythcjkbhkidijoaa
open Go.RowKit
set_option maxRecDepth 20000
set_option linter.unusedSimpArgs false
set_option linter.unusedVariables false

/-- where the first one is, or -1 -/
def idxR {α : Type} (p : α → Bool) (l : List α) : Int := match l.findIdx? p with | some i => (i : Int) | none => -1
theorem idxR_none {α : Type} {p : α → Bool} {l : List α} (h : l.all (fun x => !p x) = true) : idxR p l = -1 := by
  unfold idxR
  have : l.findIdx? p = none := by
    rw [List.findIdx?_eq_none_iff]
    intro x hx
    have := (List.all_eq_true.1 h) x hx
    simpa using this
  rw [this]
theorem idxR_some {α : Type} {p : α → Bool} {l : List α} {k : Nat} (h : k < l.length) (hb : (l.take k).all (fun x => !p x) = true) (hx : p l[k] = true) : idxR p l = (k : Int) := by
  unfold idxR
  have : l.findIdx? p = some k := by
    rw [List.findIdx?_eq_some_iff_getElem]
    refine ⟨h, hx, fun j hj => ?_⟩
    have h1 : l[j] ∈ l.take k := by
      rw [List.mem_take_iff_getElem]
      exact ⟨j, by omega, rfl⟩
    have := (List.all_eq_true.1 hb) _ h1
    simpa using this
  rw [this]
/-- how a function of a fault answers -/
def FltFn (g : Nat) (lb : Array Value) (p : Flt → Bool) (l : List Flt) (w : World) : Prop :=
  ∀ W x, x ∈ l → Below w.heap.size w W → Calls Try.prog g (#[.agg (fltCells x).toArray] ++ lb) W fun e w' => e = .returned (.bool (p x)) ∧ Below W.heap.size W w'
def EntersF (g : Nat) : Prop := ∀ args w, (callFunc g args).run Try.prog w = .ok (.enter g args) w
set_option maxHeartbeats 4000000 in
theorem idxFlt_any (g : Nat) (lb : Array Value) (q : Flt → Bool) (l : List Flt) (v : Value) (R : List Rng) (w : World) (eg : EntersF g) (hp : FltFn g lb q l w) (hv : SlRd v 6 l.length (fltRow l) R) (hR : RdIn w R) (hl : l.length ≤ 1000) :
    Calls Try.prog 62 #[v, .func (.func g) #[] lb] w fun e w' => e = .returned (.int .i64 (idxR q l)) ∧ Below w.heap.size w w' := by
  obtain ⟨a, cap, rfl, hnc, hcm, hg⟩ := hv.open hR
  obtain ⟨fs, huf⟩ := under_flt
  have HUF := Lib.hid huf
  have HC : Hid (l.length ≤ cap ∧ cap ≤ maxLen) := ⟨hnc, hcm⟩
  have HL := Lib.hid hl
  have HP := Lib.hid hp
  clear hv hR hnc hcm hl huf hp
  unfold EntersF at eg
  go_enter Try.func62, Try.ntmps62
  go_wp2_with fail
  go_loopw [8] (fun i wr => ∃ k : Nat, k ≤ l.length ∧ i = .int .i64 k ∧ (l.take k).all (fun x => !q x) = true ∧ Below w.heap.size w wr) (fun i _ => l.length - (intOf i).toNat)
  case atStart => exact ⟨0, by omega, rfl, rfl, Below.refl _ _⟩
  case round =>
    obtain ⟨k, hk, rfl, hh, hb⟩ := hrel
    have HB := Lib.hid hb
    have HH := Lib.hid hh
    clear hb hh
    by_cases hlt : k < l.length
    · obtain ⟨b, off, rfl, hr⟩ := hg.out (by omega)
      obtain ⟨x, hx⟩ : ∃ x, l[k] = x := ⟨_, rfl⟩
      have hcells : Hid (wr.rangeAt b (off + k * 6) (fltCells x)) := fun j u hj => by
        rw [Nat.add_assoc]
        exact hr wr HB.out (k * 6 + j) u (fltRow_at l k hlt j u (by rw [hx]; exact hj))
      have hki : (k : Int) < (l.length : Int) := by omega
      have hk0 : (0 : Int) ≤ (k : Int) := by omega
      have hkm : (k : Int) < 1001 := by have := HL.out; omega
      have hcall := HP.out wr x (by rw [← hx]; exact List.getElem_mem hlt) HB.out
      have HY : Hid (q x = true → idxR q l = (k : Int)) := fun h => idxR_some hlt HH.out (by rw [hx]; exact h)
      have HN : Hid (q x = false → (l.take (k + 1)).all (fun x => !q x) = true) := fun h => all_take (f := fun x => !q x) hlt HH.out (by rw [hx, h]; rfl)
      clear hr hx
      cases hq : q x
      · have HX := HN.out hq
        rw [hq] at hcall
        have HX2 := Lib.hid HX
        clear HX HY HN
        go_wp2_with (first | ((with_reducible refine wpList_load_at 29 (.tmp 14) b (off + k * 6) (fltCells x) HUF.out ?_ ?_ ?_ ?_ ?_); (exact rfl); (exact hcells.out); (exact rfl); (exact info_flt); simp only [Act.put, List.setIfInBounds_toArray, List.set_cons_zero, List.set_cons_succ]))
        refine hcall.mono ?_
        rintro e w2 ⟨rfl, hb⟩
        have HB2 : Hid (Below w.heap.size w w2) := HB.out.trans (hb.mono HB.out.size)
        clear hb
        go_wp2_with fail
        go_roundw
        case rel => exact ⟨k + 1, by omega, by go_num, HX2.out, HB2.out⟩
        case measure => simp [intOf]; omega
      · have HX := Lib.hid (HY.out hq)
        rw [hq] at hcall
        clear HY HN
        go_wp2_with (first | ((with_reducible refine wpList_load_at 29 (.tmp 14) b (off + k * 6) (fltCells x) HUF.out ?_ ?_ ?_ ?_ ?_); (exact rfl); (exact hcells.out); (exact rfl); (exact info_flt); simp only [Act.put, List.setIfInBounds_toArray, List.set_cons_zero, List.set_cons_succ]))
        refine hcall.mono ?_
        rintro e w2 ⟨rfl, hb⟩
        have HB2 : Hid (Below w.heap.size w w2) := HB.out.trans (hb.mono HB.out.size)
        clear hb
        go_wp2_with fail
        go_ret
        exact ⟨by rw [HX.out]; rfl, HB2.out⟩
    · obtain rfl : k = l.length := by omega
      rw [List.take_length] at HH
      have HX := Lib.hid (idxR_none HH.out)
      go_wp2_with fail
      go_ret
      exact ⟨by rw [HX.out]; rfl, HB.out⟩
end Go.Proofs.Ythcjkbhkidijoaa
/- the walk of the reference's Copy -/
namespace Go.Proofs.Ythcjkbhkidijoaa
open Go.RowKit
set_option maxRecDepth 20000

theorem one_of {l : List Value} (h : ∀ u ∈ l, u.oneCell' = true) : ∀ u ∈ l, u.oneCell' = true := h
theorem one_strs (l : List ByteArray) : ∀ u ∈ strRow l, u.oneCell' = true := fun u hu => by
  obtain ⟨s, _, rfl⟩ := List.mem_map.1 hu
  rfl
theorem one_ints (l : List Int) : ∀ u ∈ intRow l, u.oneCell' = true := fun u hu => by
  obtain ⟨s, _, rfl⟩ := List.mem_map.1 hu
  rfl
theorem one_flts (l : List Flt) : ∀ u ∈ fltRow l, u.oneCell' = true := fun u hu => by
  obtain ⟨x, _, hx⟩ := List.mem_flatMap.1 hu
  simp only [fltCells, List.mem_cons, List.not_mem_nil, or_false] at hx
  rcases hx with rfl | rfl | rfl | rfl | rfl | rfl <;> rfl
theorem SlRd.one {v : Value} {z n : Nat} {xs : List Value} {R : List Rng} (h : SlRd v z n xs R) : v.oneCell' = true := by
  obtain ⟨a, cap, rfl, _⟩ := h
  rfl
theorem own_one {B : Nat} {W : World} {e : TypeId} {z n : Nat} {v : Value} {xs : List Value} (h : W.ownsRow B e z v n xs) : v.oneCell' = true := by
  rcases h.2 with ⟨rfl, _⟩ | ⟨g, cap, cur, rfl, _⟩ <;> rfl
theorem dv_one {p u f : Value} (d : Dv) (hp : p.oneCell' = true) (hu : u.oneCell' = true) (hf : f.oneCell' = true) : ((dvCells p d u f).toArray).all (·.oneCell') = true := by
  rw [List.all_toArray]
  simp only [dvCells, List.all_cons, List.all_nil, hp, hu, hf, Bool.and_true, Bool.true_and]
  rfl
theorem own_slice {B : Nat} {W : World} {e : TypeId} {z n : Nat} {v : Value} {xs : List Value} (h : W.ownsRow B e z v n xs) : ∃ a c, v = .slice a n c := by
  rcases h.2 with ⟨rfl, h0⟩ | ⟨g, cap, cur, rfl, _⟩
  · exact ⟨none, 0, by rw [h0]⟩
  · exact ⟨_, _, rfl⟩
/-- how a copy ends: a device of the walk's own -/
def OwnDv (w w' : World) (v : Value) (d : Dv) : Prop := ∃ p u f, v = .agg (dvCells p d u f).toArray ∧ Hp w [.sl p 9 1 d.pages.length (strRow d.pages), .sl u 3 1 d.unread.length (intRow d.unread), .sl f 29 6 d.faults.length (fltRow d.faults)] w'
set_option maxHeartbeats 4000000 in
theorem copy_any {p u f : Value} {d : Dv} {R : List Rng} (w : World) (h : DvRd p u f d R) (hR : RdIn w R) (hp : d.pages.length ≤ 1000) (hu : d.unread.length ≤ 1000) (hf : d.faults.length ≤ 1000) :
    Calls Try.prog 36 #[.agg (dvCells p d u f).toArray] w fun e w' => ∃ v, e = .returned v ∧ OwnDv w w' v d := by
  have HPr := Lib.hid h.pages
  have HUr := Lib.hid h.unread
  have HFr := Lib.hid h.faults
  have HR := Lib.hid hR
  have HLp := Lib.hid hp
  have HLu := Lib.hid hu
  have HLf := Lib.hid hf
  obtain ⟨fs, hud⟩ := under_dv
  have HUD := Lib.hid hud
  have HUS : Hid (Try.prog.underlying 23 = some (.slice 9)) := Try.underlying23
  have HUI : Hid (Try.prog.underlying 24 = some (.slice 3)) := Try.underlying24
  have HUX : Hid (Try.prog.underlying 25 = some (.slice 29)) := Try.underlying25
  clear h hR hp hu hf hud
  have h1 := ((Hp.start w).put 27 (dvCells p d u f)).put 27 (dvCells nilS dvNil nilS nilS)
  simp only [World.size_alloc, List.nil_append, List.cons_append] at h1
  have HS0 : Hid (Hp w [.ob w.heap.size 27 (dvCells p d u f), .ob (w.heap.size + 1) 27 (dvCells nilS dvNil nilS nilS), .sl (.slice none 0 0) 9 1 0 []] ((w.alloc (.cells #[p, .int .i64 d.writes, u, .bool d.dead, f] 27)).alloc (.cells #[.slice none 0 0, .int .i64 0, .slice none 0 0, .bool false, .slice none 0 0] 27))) := h1.nil 9 1
  clear h1
  show Calls Try.prog 36 #[.agg #[p, .int .i64 d.writes, u, .bool d.dead, f]] w _
  go_enter Try.func36, Try.ntmps36
  go_wp2_with (first | ((with_reducible refine wpList_append_sl (HS0.out) (.const (.slice none 0 0)) (.tmp 4) 23 2 (v := .slice none 0 0) (n := 0) (xs := []) ?_ (xv := p) (m := d.pages.length) (ys := strRow d.pages) (R := R) ?_ ?_ HUS.out elem_s ?_ ?_ ?_ ?_ ?_); (exact rfl); (exact HPr.out); (exact HR.out.below HS0.out.old); (exact rfl); (exact rfl); (exact (one_strs _)); (exact (by have := HLp.out; omega))))
  intro v1 w1 hs
  have hs2 : Hp w [.ob w.heap.size 27 (dvCells p d u f), .ob (w.heap.size + 1) 27 (dvCells nilS dvNil nilS nilS), .sl v1 9 1 (0 + d.pages.length) ([] ++ strRow d.pages)] w1 := hs
  clear hs
  rw [Nat.zero_add, List.nil_append] at hs2
  obtain ⟨a1, c1, rfl⟩ := own_slice (hs2.own 2 rfl)
  have HA1 := Lib.hid hs2
  clear hs2
  have c : w1.cell? ⟨w.heap.size, 0, none⟩ = some p := HA1.out.at 0 rfl 0 rfl
  have fz : w1.frozen? ⟨w.heap.size, 0, none⟩ = false := HA1.out.frozen 0 rfl 0
  have c2 : (w1.setCell ⟨w.heap.size, 0, none⟩ (.slice a1 d.pages.length c1)).cell? ⟨w.heap.size, 2, none⟩ = some u := (HA1.out.set 0 rfl 0 (.slice a1 d.pages.length c1)).at 0 rfl 2 rfl
  have HB1 := Lib.hid ((HA1.out.set 0 rfl 0 (.slice a1 d.pages.length c1)).nil 3 1)
  go_wp2_with (first | ((with_reducible refine wpList_append_sl (HB1.out) (.const (.slice none 0 0)) (.tmp 8) 24 3 (v := .slice none 0 0) (n := 0) (xs := []) ?_ (xv := u) (m := d.unread.length) (ys := intRow d.unread) (R := R) ?_ ?_ HUI.out elem_i ?_ ?_ ?_ ?_ ?_); (exact rfl); (exact HUr.out); (exact HR.out.below HB1.out.old); (exact rfl); (exact rfl); (exact (one_ints _)); (exact (by have := HLu.out; omega))))
  clear c fz c2
  intro v2 w2 hs
  have hs2 : Hp w [.ob w.heap.size 27 (dvCells (.slice a1 d.pages.length c1) d u f), .ob (w.heap.size + 1) 27 (dvCells nilS dvNil nilS nilS), .sl (.slice a1 d.pages.length c1) 9 1 d.pages.length (strRow d.pages), .sl v2 3 1 (0 + d.unread.length) ([] ++ intRow d.unread)] w2 := hs
  clear hs
  rw [Nat.zero_add, List.nil_append] at hs2
  obtain ⟨a2, c2, rfl⟩ := own_slice (hs2.own 3 rfl)
  have HA2 := Lib.hid hs2
  clear hs2
  have c : w2.cell? ⟨w.heap.size, 2, none⟩ = some u := HA2.out.at 0 rfl 2 rfl
  have fz : w2.frozen? ⟨w.heap.size, 2, none⟩ = false := HA2.out.frozen 0 rfl 2
  have c4 : (w2.setCell ⟨w.heap.size, 2, none⟩ (.slice a2 d.unread.length c2)).cell? ⟨w.heap.size, 4, none⟩ = some f := (HA2.out.set 0 rfl 2 (.slice a2 d.unread.length c2)).at 0 rfl 4 rfl
  have HB2 := Lib.hid ((HA2.out.set 0 rfl 2 (.slice a2 d.unread.length c2)).nil 29 6)
  go_wp2_with (first | ((with_reducible refine wpList_append_sl (HB2.out) (.const (.slice none 0 0)) (.tmp 12) 25 4 (v := .slice none 0 0) (n := 0) (xs := []) ?_ (xv := f) (m := d.faults.length) (ys := fltRow d.faults) (R := R) ?_ ?_ HUX.out elem_flt ?_ ?_ ?_ ?_ ?_); (exact rfl); (exact HFr.out); (exact HR.out.below HB2.out.old); (exact rfl); (exact rfl); (exact (one_flts _)); (exact (by have := HLf.out; omega))))
  clear c fz c4
  intro v3 w3 hs
  have hs2 : Hp w [.ob w.heap.size 27 (dvCells (.slice a1 d.pages.length c1) d (.slice a2 d.unread.length c2) f), .ob (w.heap.size + 1) 27 (dvCells nilS dvNil nilS nilS), .sl (.slice a1 d.pages.length c1) 9 1 d.pages.length (strRow d.pages), .sl (.slice a2 d.unread.length c2) 3 1 d.unread.length (intRow d.unread), .sl v3 29 6 (0 + d.faults.length) ([] ++ fltRow d.faults)] w3 := hs
  clear hs
  rw [Nat.zero_add, List.nil_append] at hs2
  obtain ⟨a3, c3, rfl⟩ := own_slice (hs2.own 4 rfl)
  have HA3 := Lib.hid hs2
  clear hs2
  have c : w3.cell? ⟨w.heap.size, 4, none⟩ = some f := HA3.out.at 0 rfl 4 rfl
  have fz : w3.frozen? ⟨w.heap.size, 4, none⟩ = false := HA3.out.frozen 0 rfl 4
  have HB3 : Hid (Hp w [.ob w.heap.size 27 (dvCells (.slice a1 d.pages.length c1) d (.slice a2 d.unread.length c2) (.slice a3 d.faults.length c3)), .ob (w.heap.size + 1) 27 (dvCells nilS dvNil nilS nilS), .sl (.slice a1 d.pages.length c1) 9 1 d.pages.length (strRow d.pages), .sl (.slice a2 d.unread.length c2) 3 1 d.unread.length (intRow d.unread), .sl (.slice a3 d.faults.length c3) 29 6 d.faults.length (fltRow d.faults)] (w3.setCell ⟨w.heap.size, 4, none⟩ (.slice a3 d.faults.length c3))) := HA3.out.set 0 rfl 4 (.slice a3 d.faults.length c3)
  go_wp2_with (first | ((with_reducible refine wpList_load_ob 27 (.tmp 1) w.heap.size (dvCells (.slice a1 d.pages.length c1) d (.slice a2 d.unread.length c2) (.slice a3 d.faults.length c3)) 27 HUD.out ?_ ?_ ?_ ?_ ?_); (exact rfl); (exact HB3.out.get 0 rfl); (exact rfl); (exact info_dv); simp only [Act.put, List.setIfInBounds_toArray, List.set_cons_zero, List.set_cons_succ]) | ((with_reducible refine wpList_store_ob 27 (.tmp 2) (w.heap.size + 1) (dvCells (.slice a1 d.pages.length c1) d (.slice a2 d.unread.length c2) (.slice a3 d.faults.length c3)) (dvCells nilS dvNil nilS nilS) 27 ?_ ?_ ?_ ?_ ?_ ?_ ?_); (exact rfl); (exact rfl); (exact HB3.out.get 1 rfl); (exact info_dv); (exact rfl); (exact (oneCell_dv _ _ _ _ _ _ _ _ _ _)); skip))
  have HC : Hid (Hp w [.ob w.heap.size 27 (dvCells (.slice a1 d.pages.length c1) d (.slice a2 d.unread.length c2) (.slice a3 d.faults.length c3)), .ob (w.heap.size + 1) 27 (dvCells (.slice a1 d.pages.length c1) d (.slice a2 d.unread.length c2) (.slice a3 d.faults.length c3)), .sl (.slice a1 d.pages.length c1) 9 1 d.pages.length (strRow d.pages), .sl (.slice a2 d.unread.length c2) 3 1 d.unread.length (intRow d.unread), .sl (.slice a3 d.faults.length c3) 29 6 d.faults.length (fltRow d.faults)] ((w3.setCell ⟨w.heap.size, 4, none⟩ (.slice a3 d.faults.length c3)).setRow (w.heap.size + 1) (dvCells (.slice a1 d.pages.length c1) d (.slice a2 d.unread.length c2) (.slice a3 d.faults.length c3)).toArray)) := HB3.out.row 1 rfl (dvCells (.slice a1 d.pages.length c1) d (.slice a2 d.unread.length c2) (.slice a3 d.faults.length c3))
  refine bodyPost_ret (results_ob Try.results36 _ _ (w.heap.size + 1) (dvCells (.slice a1 d.pages.length c1) d (.slice a2 d.unread.length c2) (.slice a3 d.faults.length c3)) 27 _ rfl (HC.out.get 1 rfl) HUD.out rfl info_dv) rfl ?_
  exact ⟨_, rfl, (.slice a1 d.pages.length c1), (.slice a2 d.unread.length c2), (.slice a3 d.faults.length c3), rfl, HC.out.pull [2, 3, 4] rfl (pull_nd HC.out.nd [2, 3, 4] rfl (by decide))⟩
end Go.Proofs.Ythcjkbhkidijoaa
/- rows of whole elements that are written in place -/
namespace Go.Proofs.Ythcjkbhkidijoaa
open Go.RowKit
set_option maxRecDepth 20000
set_option linter.unusedSimpArgs false
set_option linter.unusedVariables false

theorem run_inj {a b : World} (h : (Result.ok () a : Result Unit) = .ok () b) : a = b := by injection h
theorem setCells_row {W : World} {g o : Nat} {cs cur : List Value} {t : TypeId} (hg : W.heap[g]? = some (.cells cur.toArray t (0, 0))) (hfit : o + cs.length ≤ cur.length) (h1 : ∀ v ∈ cs, v.oneCell' = true) :
    W.setCells g o cs = W.setRow g (splice cur o cs).toArray := by
  have a := run_storeCells_at Try.prog g o t cs 0 cur.toArray W hg (by simpa using hfit) h1
  have b := run_storeCells_cells (P := Try.prog) g o cs 0 W (fun j hj => by
    rw [Nat.add_zero, cell_of_row W g (o + j) _ _ _ hg, List.getElem?_toArray, List.getElem?_eq_getElem (by omega)]; rfl) (fun j hj => frozen_of_row _ _ _ _ _ hg) h1
  rw [a] at b
  simp only [Nat.add_zero] at b
  rw [← run_inj b]
  unfold splice
  rw [List.append_assoc]
theorem grown_setRow (W : World) (g : Nat) (cs : Array Value) : W.grownBy (W.setRow g cs) (some g) := ⟨rfl, rfl, rfl, by simp [World.setRow], fun k hk hne => setRow_other W g k cs (fun e => hne (by rw [e]))⟩
theorem grown_trans {a b c : World} {r : Option Nat} (h : a.grownBy b r) (k : b.grownBy c r) : a.grownBy c r := ⟨k.os.trans h.os, k.tape.trans h.tape, k.output.trans h.output, Nat.le_trans h.size k.size, fun i hi hne => (k.block i (Nat.lt_of_lt_of_le hi h.size) hne).trans (h.block i hi hne)⟩
theorem grown_below {a b : World} {r : Option Nat} (h : Below a.heap.size a b) : a.grownBy b r := ⟨h.os, h.tape, h.output, h.size, fun k hk _ => h.block k hk⟩
theorem grown_then {a b c : World} {r : Option Nat} (h : a.grownBy b r) (k : Below b.heap.size b c) : a.grownBy c r := grown_trans h (grown_below k)
theorem grown_refl (a : World) (r : Option Nat) : a.grownBy a r := ⟨rfl, rfl, rfl, Nat.le_refl _, fun _ _ _ => rfl⟩
section
variable {α : Type} {enc : α → List Value} {z : Nat}
def encRow (enc : α → List Value) (ys : List α) : List Value := ys.flatMap enc
theorem encRow_len (hz : ∀ x, (enc x).length = z) : ∀ ys : List α, (encRow enc ys).length = ys.length * z
  | [] => by simp [encRow]
  | y :: l => by
    show (enc y ++ encRow enc l).length = _
    rw [List.length_append, hz, encRow_len hz l, List.length_cons, Nat.add_mul]; omega
theorem encRow_append (a b : List α) : encRow enc (a ++ b) = encRow enc a ++ encRow enc b := List.flatMap_append
theorem encRow_at (hz : ∀ x, (enc x).length = z) (rest : List Value) {ys : List α} {k : Nat} (h : k < ys.length) : ∀ j v, (enc ys[k])[j]? = some v → (encRow enc ys ++ rest)[k * z + j]? = some v := by
  intro j v hv
  have hj := (List.getElem?_eq_some_iff.1 hv).1
  rw [hz] at hj
  have e : ys = ys.take k ++ (ys[k] :: ys.drop (k + 1)) := by rw [List.getElem_cons_drop, List.take_append_drop]
  have e2 : encRow enc ys = encRow enc (ys.take k) ++ (enc ys[k] ++ encRow enc (ys.drop (k + 1))) := by
    conv => lhs; rw [e]
    rw [encRow_append]
    rfl
  have l1 : (encRow enc (ys.take k)).length = k * z := by rw [encRow_len hz, List.length_take, Nat.min_eq_left (by omega)]
  rw [e2, List.append_assoc, List.getElem?_append_right (by omega), l1, Nat.add_sub_cancel_left, List.append_assoc, List.getElem?_append_left (by rw [hz]; exact hj)]
  exact hv
theorem encRow_set (hz : ∀ x, (enc x).length = z) (rest : List Value) {ys : List α} {k : Nat} (h : k < ys.length) (y : α) : splice (encRow enc ys ++ rest) (k * z) (enc y) = encRow enc (ys.set k y) ++ rest := by
  have e : ys = ys.take k ++ (ys[k] :: ys.drop (k + 1)) := by rw [List.getElem_cons_drop, List.take_append_drop]
  have e2 : encRow enc ys = encRow enc (ys.take k) ++ (enc ys[k] ++ encRow enc (ys.drop (k + 1))) := by
    conv => lhs; rw [e]
    rw [encRow_append]
    rfl
  have e3 : encRow enc (ys.set k y) = encRow enc (ys.take k) ++ (enc y ++ encRow enc (ys.drop (k + 1))) := by
    rw [List.set_eq_take_append_cons_drop, if_pos h, encRow_append]
    rfl
  have l1 : (encRow enc (ys.take k)).length = k * z := by rw [encRow_len hz, List.length_take, Nat.min_eq_left (by omega)]
  unfold splice
  rw [e2, e3, hz, List.append_assoc, List.take_append_of_le_length (by omega), List.take_of_length_le (by omega), List.drop_append, l1, List.drop_of_length_le (by omega), List.nil_append, Nat.add_sub_cancel_left, List.append_assoc, List.drop_append, hz, List.drop_of_length_le (by rw [hz]; omega), List.nil_append, Nat.sub_self, List.drop_zero, List.append_assoc, List.append_assoc]
theorem encRow_clear (hz : ∀ x, (enc x).length = z) (rest : List Value) {ys : List α} {i : Nat} (h : i ≤ ys.length) (zr : α) : splice (encRow enc ys ++ rest) (i * z) (encRow enc (List.replicate (ys.length - i) zr)) = encRow enc (ys.take i ++ List.replicate (ys.length - i) zr) ++ rest := by
  have e2 : encRow enc ys = encRow enc (ys.take i) ++ encRow enc (ys.drop i) := by rw [← encRow_append, List.take_append_drop]
  have l1 : (encRow enc (ys.take i)).length = i * z := by rw [encRow_len hz, List.length_take, Nat.min_eq_left h]
  have l2 : (encRow enc (ys.drop i)).length = (ys.length - i) * z := by rw [encRow_len hz, List.length_drop]
  have l3 : (encRow enc (List.replicate (ys.length - i) zr)).length = (ys.length - i) * z := by rw [encRow_len hz, List.length_replicate]
  unfold splice
  rw [encRow_append, e2, l3, List.append_assoc, List.take_append_of_le_length (by omega), List.take_of_length_le (by omega), List.drop_append, l1, List.drop_of_length_le (by omega), List.nil_append, Nat.add_sub_cancel_left, List.drop_append, l2, List.drop_of_length_le (by omega), List.nil_append, Nat.sub_self, List.drop_zero, List.append_assoc]
/-- what a search that strikes elements has done so far -/
structure KeptR (p : α → Bool) (l : List α) (j i : Nat) (ys : List α) : Prop where
  len : ys.length = l.length
  num : i = ((l.take j).filter fun x => !p x).length
  low : ys.take i = (l.take j).filter fun x => !p x
  high : ys.drop j = l.drop j
  lt : i < j
theorem KeptR.start {p : α → Bool} {l : List α} {k : Nat} (hk : k < l.length) (hb : (l.take k).all (fun x => !p x) = true) (hx : p l[k] = true) : KeptR p l (k + 1) k l := by
  have e : (l.take (k + 1)).filter (fun x => !p x) = l.take k := by
    rw [List.take_succ_eq_append_getElem hk, List.filter_append, List.filter_eq_self.2 (List.all_eq_true.1 hb)]
    simp [hx]
  exact ⟨rfl, by rw [e, List.length_take]; omega, e.symm, rfl, Nat.lt_succ_self _⟩
theorem KeptR.at {p : α → Bool} {l : List α} {j i : Nat} {ys : List α} (h : KeptR p l j i ys) (hj : j < l.length) : ys[j]'(by rw [h.len]; exact hj) = l[j] := by
  have := congrArg (fun m => m[0]?) h.high
  simp only [List.getElem?_drop, Nat.add_zero] at this
  rw [List.getElem?_eq_getElem (by rw [h.len]; exact hj), List.getElem?_eq_getElem hj] at this
  exact Option.some.inj this
theorem KeptR.keep {p : α → Bool} {l : List α} {j i : Nat} {ys : List α} (h : KeptR p l j i ys) (hj : j < l.length) (hx : p l[j] = false) : KeptR p l (j + 1) (i + 1) (ys.set i l[j]) := by
  have e : (l.take (j + 1)).filter (fun x => !p x) = (l.take j).filter (fun x => !p x) ++ [l[j]] := by
    rw [List.take_succ_eq_append_getElem hj, List.filter_append]
    simp [hx]
  have hlt := h.lt
  have hlen := h.len
  refine ⟨by rw [List.length_set]; exact hlen, by rw [e, List.length_append, ← h.num]; rfl, ?_, ?_, by omega⟩
  · rw [e, ← h.low, List.take_succ_eq_append_getElem (by rw [List.length_set]; omega), List.getElem_set_self]
    congr 1
    rw [List.take_set_of_le (Nat.le_refl _)]
  · rw [List.drop_set_of_lt (by omega)]
    have := congrArg (List.drop 1) h.high
    rw [List.drop_drop, List.drop_drop] at this
    exact this
theorem KeptR.skip {p : α → Bool} {l : List α} {j i : Nat} {ys : List α} (h : KeptR p l j i ys) (hj : j < l.length) (hx : p l[j] = true) : KeptR p l (j + 1) i ys := by
  have e : (l.take (j + 1)).filter (fun x => !p x) = (l.take j).filter (fun x => !p x) := by
    rw [List.take_succ_eq_append_getElem hj, List.filter_append]
    simp [hx]
  have hlt := h.lt
  refine ⟨h.len, by rw [e]; exact h.num, by rw [e]; exact h.low, ?_, by omega⟩
  have := congrArg (List.drop 1) h.high
  rw [List.drop_drop, List.drop_drop] at this
  exact this
theorem KeptR.done {p : α → Bool} {l : List α} {i : Nat} {ys : List α} (h : KeptR p l l.length i ys) : ys.take i = l.filter (fun x => !p x) ∧ i = (l.filter fun x => !p x).length := by
  have h1 := h.low
  have h2 := h.num
  rw [List.take_length] at h1 h2
  exact ⟨h1, h2⟩
end
theorem fltRow_enc (l : List Flt) : fltRow l = encRow fltCells l := rfl
def encI (n : Int) : List Value := [.int .i64 n]
theorem intRow_enc (l : List Int) : intRow l = encRow encI l := by
  induction l with
  | nil => rfl
  | cons x l ih =>
    show Value.int .i64 x :: intRow l = _
    rw [ih]
    rfl
theorem fltCells_len (x : Flt) : (fltCells x).length = 6 := rfl
theorem encI_len (x : Int) : (encI x).length = 1 := rfl
/-- a slice of its own, opened: its block's row -/
theorem own_open {α : Type} {enc : α → List Value} {z : Nat} (hz : ∀ x, (enc x).length = z) {B : Nat} {W : World} {e : TypeId} {n : Nat} {l : List α} {v : Value} (h : W.ownsRow B e z v n (encRow enc l)) (hn : n = l.length) (h0 : 0 < z) :
    (v = .slice none 0 0 ∧ l = []) ∨ ∃ g cap rest, v = .slice (some ⟨g, 0, none⟩) l.length cap ∧ B ≤ g ∧ W.heap[g]? = some (.cells (encRow enc l ++ rest).toArray e (0, 0)) ∧ l.length ≤ cap ∧ cap ≤ maxLen ∧ (encRow enc l ++ rest).length = cap * z := by
  subst hn
  rcases h.2 with ⟨hv, h1⟩ | ⟨g, cap, cur, hv, hB, hg, h1, h2, h3, h4⟩
  · exact .inl ⟨hv, List.eq_nil_of_length_eq_zero h1⟩
  · refine .inr ⟨g, cap, cur.toList.drop (l.length * z), hv, hB, ?_, h1, h2, ?_⟩
    · rw [hg, ← h4, List.take_append_drop]
    · rw [← h4, List.take_append_drop]; simpa using h3
theorem own_close {α : Type} {enc : α → List Value} {z : Nat} (hz : ∀ x, (enc x).length = z) {B : Nat} {W : World} {e : TypeId} {g cap : Nat} {l m : List α} {rest : List Value} (hB : B ≤ g) (hg : W.heap[g]? = some (.cells (encRow enc (l ++ m) ++ rest).toArray e (0, 0))) (h1 : l.length ≤ cap) (h2 : cap ≤ maxLen) (h3 : (encRow enc (l ++ m) ++ rest).length = cap * z) :
    W.ownsRow B e z (.slice (some ⟨g, 0, none⟩) l.length cap) l.length (encRow enc l) := by
  refine ⟨encRow_len hz l, .inr ⟨g, cap, _, rfl, hB, hg, h1, h2, by simpa using h3, ?_⟩⟩
  rw [encRow_append, List.append_assoc]
  rw [← encRow_len hz l]
  simp
theorem zero_row {α : Type} {enc : α → List Value} {z : Nat} (hz : ∀ x, (enc x).length = z) (h0 : 0 < z) (zr : α) (zv : Value) (hv : zv.cells.toList = enc zr) (n : Nat) : (Builtin.zeroCells zv.cells n).toList = encRow enc (List.replicate n zr) := by
  have hs : zv.cells.size = z := by rw [← Array.length_toList, hv, hz]
  apply List.ext_getElem
  · rw [encRow_len hz, List.length_replicate]
    simp [Builtin.zeroCells, hs]
  · intro i h1 h2
    rw [encRow_len hz, List.length_replicate] at h2
    have hk : i / z < n := Nat.div_lt_of_lt_mul (by rw [Nat.mul_comm]; exact h2)
    have hm : i % z < z := Nat.mod_lt _ h0
    have hat := encRow_at hz [] (ys := List.replicate n zr) (k := i / z) (by rw [List.length_replicate]; exact hk) (i % z) _ (List.getElem?_eq_getElem (by rw [hz]; exact hm))
    rw [List.append_nil, show i / z * z + i % z = i from by rw [Nat.mul_comm]; exact Nat.div_add_mod i z] at hat
    have e1 := (List.getElem?_eq_some_iff.1 hat).2
    rw [e1]
    simp only [List.getElem_replicate]
    simp only [Builtin.zeroCells, Array.toList_map, List.getElem_map, Array.getElem_toList, Array.getElem_range, hs]
    rw [getElem!_pos zv.cells (i % z) (by rw [hs]; exact hm)]
    have e2 : zv.cells.toList[i % z]'(by rw [Array.length_toList, hs]; exact hm) = (enc zr)[i % z]'(by rw [hz]; exact hm) := by
      simp only [hv]
    rw [← e2, Array.getElem_toList]
/-- what is cleared -/
theorem run_clear_row {α : Type} {enc : α → List Value} {z : Nat} (hz : ∀ x, (enc x).length = z) (h0 : 0 < z) {t e : TypeId} (ht : Try.prog.underlying t = some (.slice e)) (zr : α) (zv : Value) (hv : zv.cells.toList = enc zr) (hzv : ∀ W, (zeroValue e).run Try.prog W = .ok zv W) (W : World) {g i : Nat} {ys : List α} {rest : List Value} (hg : W.heap[g]? = some (.cells (encRow enc ys ++ rest).toArray e (0, 0))) (hi : i < ys.length)
    (h1 : ∀ v ∈ enc zr, v.oneCell' = true) (ty : TypeId) (c : Nat) :
    (Builtin.clear_ #[t] ty #[.slice (some ⟨g, i * z, none⟩) (ys.length - i) c]).run Try.prog W = .ok (.tuple #[]) (W.setRow g (encRow enc (ys.take i ++ List.replicate (ys.length - i) zr) ++ rest).toArray) := by
  have hlen : i * z + (encRow enc (List.replicate (ys.length - i) zr)).length ≤ (encRow enc ys ++ rest).length := by
    rw [encRow_len hz, List.length_replicate, List.length_append, encRow_len hz, ← Nat.add_mul, show i + (ys.length - i) = ys.length from by omega]
    omega
  have hone : ∀ v ∈ encRow enc (List.replicate (ys.length - i) zr), v.oneCell' = true := fun v hv' => by
    obtain ⟨x, hx, hxv⟩ := List.mem_flatMap.1 hv'
    rw [List.eq_of_mem_replicate hx] at hxv
    exact h1 v hxv
  have hst := run_storeCells_at Try.prog g (i * z) e (encRow enc (List.replicate (ys.length - i) zr)) 0 _ W hg (by simpa using hlen) hone
  rw [← encRow_clear hz rest (Nat.le_of_lt hi) zr]
  have hs : ∀ (l : List Value) (o : Nat) (cs : List Value), l.take o ++ cs ++ l.drop (o + cs.length) = splice l o cs := fun l o cs => by unfold splice; rw [List.append_assoc]
  simp only [Nat.add_zero, hs] at hst
  obtain ⟨m, hm⟩ : ∃ m, ys.length - i = m + 1 := ⟨ys.length - i - 1, by omega⟩
  have hzr := zero_row hz h0 zr zv hv (ys.length - i)
  rw [hm] at hst hzr ⊢
  simp [Builtin.clear_, run_underlying ht, hzv, hzr, hst]
end Go.Proofs.Ythcjkbhkidijoaa
/- the library's DeleteFunc over faults -/
namespace Go.Proofs.Ythcjkbhkidijoaa
open Go.RowKit
set_option maxRecDepth 20000
set_option linter.unusedSimpArgs false
set_option linter.unusedVariables false

theorem zeroV_flt (W : World) : (zeroValue 29).run Try.prog W = .ok (.agg (fltCells fltNil).toArray) W := by kernel_rfl
theorem one_fltl (x : Flt) : ∀ u ∈ fltCells x, u.oneCell' = true := by
  intro u hu
  simp only [fltCells, List.mem_cons, List.not_mem_nil, or_false] at hu
  rcases hu with rfl | rfl | rfl | rfl | rfl | rfl <;> rfl
theorem idxR_neg {α : Type} {p : α → Bool} {l : List α} (h : idxR p l = -1) : l.all (fun x => !p x) = true := by
  unfold idxR at h
  cases hf : l.findIdx? p with
  | none =>
    rw [List.findIdx?_eq_none_iff] at hf
    exact List.all_eq_true.2 (fun x hx => by simpa using hf x hx)
  | some i => rw [hf] at h; simp at h
theorem idxR_pos {α : Type} {p : α → Bool} {l : List α} (h : ¬ idxR p l = -1) : ∃ k, ∃ hk : k < l.length, idxR p l = (k : Int) ∧ (l.take k).all (fun x => !p x) = true ∧ p l[k] = true := by
  unfold idxR at h ⊢
  cases hf : l.findIdx? p with
  | none => rw [hf] at h; exact absurd rfl h
  | some i =>
    have hf' := List.findIdx?_eq_some_iff_getElem.1 hf
    obtain ⟨hi, hx, hb⟩ := hf'
    refine ⟨i, hi, rfl, List.all_eq_true.2 (fun x hx => ?_), hx⟩
    obtain ⟨j, hj, rfl⟩ := List.mem_take_iff_getElem.1 hx
    simpa using hb j (by omega)
/-- a function of a fault that answers the same whatever block g holds -/
def FltFnX (gn : Nat) (lb : Array Value) (p : Flt → Bool) (l : List Flt) (g : Option Nat) (w : World) : Prop :=
  ∀ W x, x ∈ l → w.grownBy W g → Calls Try.prog gn (#[.agg (fltCells x).toArray] ++ lb) W fun e w' => e = .returned (.bool (p x)) ∧ Below W.heap.size W w'
set_option maxHeartbeats 8000000 in
theorem delFlt_row (gn : Nat) (lb : Array Value) (q : Flt → Bool) (l : List Flt) (g cap : Nat) (rest : List Value) (w : World) (eg : EntersF gn) (hp : FltFnX gn lb q l (some g) w) (hl : l.length ≤ 1000) (hcap : l.length ≤ cap) (hcm : cap ≤ maxLen)
    (hg : w.heap[g]? = some (.cells (encRow fltCells l ++ rest).toArray 29 (0, 0))) :
    Calls Try.prog 40 #[.slice (some ⟨g, 0, none⟩) l.length cap, .func (.func gn) #[] lb] w fun e w' => e = .returned (.slice (some ⟨g, 0, none⟩) (l.filter fun x => !q x).length cap) ∧
      (∃ m : List Flt, (l.filter (fun x => !q x) ++ m).length = l.length ∧ w'.heap[g]? = some (.cells (encRow fltCells (l.filter (fun x => !q x) ++ m) ++ rest).toArray 29 (0, 0))) ∧ w.grownBy w' (some g) := by
  have hlt0 : g < w.heap.size := (Array.getElem?_eq_some_iff.1 hg).1
  have HRow : Hid (∀ (W : World) (ys : List Flt), W.heap[g]? = some (.cells (encRow fltCells ys ++ rest).toArray 29 (0, 0)) → ∀ k (h : k < ys.length), W.rangeAt g (k * 6) (fltCells ys[k])) := fun W ys hW k h j u hj => by
    rw [cell_of_row W g (k * 6 + j) _ _ _ hW, List.getElem?_toArray]
    exact encRow_at fltCells_len rest h j u hj
  have hIx : Calls Try.prog 62 #[.slice (some ⟨g, 0, none⟩) l.length cap, .func (.func gn) #[] lb] w fun e w' => e = .returned (.int .i64 (idxR q l)) ∧ Below w.heap.size w w' :=
    idxFlt_any gn lb q l _ [(g, 0, fltRow l)] w eg (fun W x hx hb => hp W x hx (grown_below hb)) ⟨_, cap, rfl, encRow_len fltCells_len l, hcap, hcm, fun _ => ⟨g, 0, rfl, List.mem_singleton.2 rfl⟩, fun h => by cases h⟩ (fun r hr => by
      obtain rfl := List.mem_singleton.1 hr
      refine ⟨hlt0, fun j u hj => ?_⟩
      have hj' : (encRow fltCells l)[j]? = some u := hj
      show w.cell? ⟨g, 0 + j, none⟩ = some u
      rw [cell_of_row w g (0 + j) _ _ _ hg, List.getElem?_toArray, Nat.zero_add, List.getElem?_append_left (List.getElem?_eq_some_iff.1 hj').1]
      exact hj') hl
  have HP := Lib.hid hp
  have HG0 := Lib.hid hg
  have HC : Hid (l.length ≤ cap ∧ cap ≤ maxLen ∧ l.length ≤ 1000 ∧ g < w.heap.size) := ⟨hcap, hcm, hl, hlt0⟩
  obtain ⟨fs, huf⟩ := under_flt
  have HUF := Lib.hid huf
  clear hp hg hcap hcm hl huf hlt0
  unfold EntersF at eg
  by_cases hr : idxR q l = -1
  · have hall := idxR_neg hr
    rw [hr] at hIx
    have HF : Hid (l.filter (fun x => !q x) = l) := List.filter_eq_self.2 (List.all_eq_true.1 hall)
    clear hr hall
    go_enter Try.func40, Try.ntmps40
    go_wp2_with fail
    refine hIx.mono ?_
    rintro e w2 ⟨rfl, hb⟩
    have HB := Lib.hid hb
    clear hb hIx
    go_wp2_with fail
    go_ret
    refine ⟨by rw [HF.out]; rfl, ⟨[], by rw [HF.out, List.append_nil], ?_⟩, grown_below HB.out⟩
    rw [HF.out, List.append_nil]
    exact (HB.out.block _ HC.out.2.2.2).trans HG0.out
  · obtain ⟨k0, hk0, e0, hall, hx⟩ := idxR_pos hr
    have HK0 := Lib.hid (KeptR.start hk0 hall hx)
    have HK1 := Lib.hid hk0
    rw [e0] at hIx
    clear hr e0 hall hx
    have hk01 : ((k0 : Int) == -1) = false := by rw [beq_eq_false_iff_ne]; omega
    have hk0m : (k0 : Int) < 1001 := by have := HC.out; omega
    clear hk0
    go_enter Try.func40, Try.ntmps40
    go_wp2_with fail
    refine hIx.mono ?_
    rintro e w2 ⟨rfl, hb⟩
    have HB : Hid (w.grownBy w2 (some g) ∧ w2.heap[g]? = some (.cells (encRow fltCells l ++ rest).toArray 29 (0, 0))) := ⟨grown_below hb, (hb.block _ HC.out.2.2.2).trans HG0.out⟩
    clear hb hIx
    go_wp2_with fail
    go_loopw [5, 6] (fun si sj wr => ∃ (i j : Nat) (ys : List Flt), si = .int .i64 i ∧ sj = .int .i64 j ∧ j ≤ l.length ∧ KeptR q l j i ys ∧ w.grownBy wr (some g) ∧ wr.heap[g]? = some (.cells (encRow fltCells ys ++ rest).toArray 29 (0, 0))) (fun _ sj _ => l.length - (intOf sj).toNat)
    case atStart => exact ⟨k0, k0 + 1, l, rfl, by go_num, HK1.out, HK0.out, HB.out.1, HB.out.2⟩
    case round =>
      clear hk01 hk0m
      obtain ⟨i, j, ys, rfl, rfl, hj, hk, hgb, hgr⟩ := hrel
      have HK := Lib.hid hk
      have HGb := Lib.hid hgb
      have HGr := Lib.hid hgr
      clear hk hgb hgr HB
      by_cases hlt : j < l.length
      · have hji : (j : Int) < (l.length : Int) := by omega
        have hj0 : (0 : Int) ≤ (j : Int) := by omega
        have hjm : (j : Int) < 1000 := by have := HC.out; omega
        have hi0 : (0 : Int) ≤ (i : Int) := by omega
        have hil : (i : Int) < (l.length : Int) := by have := HK.out.lt; omega
        have him : (i : Int) < 1000 := by have := HK.out.lt; omega
        obtain ⟨x, hxe⟩ : ∃ x, l[j] = x := ⟨_, rfl⟩
        have HXe := Lib.hid hxe
        have hylen := HK.out.len
        have hjy : j < ys.length := by omega
        have HMid : Hid (wr.rangeAt g (j * 6) (fltCells x)) := by
          have h := HRow.out wr ys HGr.out j hjy
          rw [HK.out.at hlt, hxe] at h
          exact h
        have hlw : g < wr.heap.size := Nat.lt_of_lt_of_le HC.out.2.2.2 HGb.out.size
        have HW1 : Hid (Below wr.heap.size wr ((wr.alloc (.cells (fltCells fltNil).toArray 29)).setRow wr.heap.size (fltCells x).toArray)) := below_setRow ((Below.refl _ _).alloc (Nat.le_refl _) _) (Nat.le_refl _) _
        have HV1 : Hid (((wr.alloc (.cells (fltCells fltNil).toArray 29)).setRow wr.heap.size (fltCells x).toArray).heap[wr.heap.size]? = some (.cells (fltCells x).toArray 29 (0, 0))) := setRow_heap _ _ _ _ _ _ (heap_alloc_last wr _)
        have HSz1 : Hid (wr.heap.size < ((wr.alloc (.cells (fltCells fltNil).toArray 29)).setRow wr.heap.size (fltCells x).toArray).heap.size) := (Array.getElem?_eq_some_iff.1 HV1.out).1
        have hcall := HP.out _ x (by rw [← hxe]; exact List.getElem_mem hlt) (grown_then HGb.out HW1.out)
        have HYes := Lib.hid (fun h : q x = false => HK.out.keep hlt (by rw [hxe]; exact h))
        have HNo := Lib.hid (fun h : q x = true => HK.out.skip hlt (by rw [hxe]; exact h))
        have HILt : Hid (i < ys.length) := by show _ < _; have := HK.out.lt; omega
        clear hxe hylen hjy hj
        go_wp2_with (first | ((with_reducible refine wpList_load_at 29 (.tmp 24) g (j * 6) (fltCells x) HUF.out ?_ ?_ ?_ ?_ ?_); (exact rfl); (exact HMid.out); (exact rfl); (exact info_flt); simp only [Act.put, List.setIfInBounds_toArray, List.set_cons_zero, List.set_cons_succ]) | ((with_reducible refine wpList_alloc_ob 29 (fltCells fltNil) ?_ ?_); (exact alloc_flt); simp only [Act.put, List.setIfInBounds_toArray, List.set_cons_zero, List.set_cons_succ]) | ((with_reducible refine wpList_store_ob 29 (.tmp 7) wr.heap.size (fltCells x) (fltCells fltNil) 29 ?_ ?_ ?_ ?_ ?_ ?_ ?_); (exact rfl); (exact rfl); (exact heap_alloc_last wr _); (exact info_flt); (exact rfl); (exact oneCell_flt _); skip) | ((with_reducible refine wpList_load_ob 29 (.tmp 7) wr.heap.size (fltCells x) 29 HUF.out ?_ ?_ ?_ ?_ ?_); (exact rfl); (exact HV1.out); (exact rfl); (exact info_flt); simp only [Act.put, List.setIfInBounds_toArray, List.set_cons_zero, List.set_cons_succ]))
        refine hcall.mono ?_
        rintro e w3 ⟨rfl, hb⟩
        have HB3 : Hid (w.grownBy w3 (some g)) := grown_then (grown_then HGb.out HW1.out) hb
        have HG3 : Hid (w3.heap[g]? = some (.cells (encRow fltCells ys ++ rest).toArray 29 (0, 0))) := ((hb.block g (Nat.lt_trans hlw HSz1.out)).trans (HW1.out.block g hlw)).trans HGr.out
        have HV3 : Hid (w3.heap[wr.heap.size]? = some (.cells (fltCells x).toArray 29 (0, 0))) := (hb.block _ HSz1.out).trans HV1.out
        clear hb hcall HW1 HV1 HSz1 HGb HGr HMid hlw
        generalize wr.heap.size = bx at *
        cases hq : q x
        · have HK2 := Lib.hid (HYes.out hq)
          have HTh : Hid (w3.there g (i * 6) (fltCells x).toArray.size) := fun t ht => by
            have ht6 : t < 6 := ht
            refine ⟨?_, frozen_of_row _ _ _ _ _ HG3.out⟩
            have h := HRow.out w3 ys HG3.out i HILt.out t _ (List.getElem?_eq_getElem (by rw [fltCells_len]; exact ht6))
            rw [h]; rfl
          have HW4 : Hid (w3.setCells g (i * 6) (fltCells x).toArray.toList = w3.setRow g (encRow fltCells (ys.set i x) ++ rest).toArray) := by
            show _ = _
            rw [show (fltCells x).toArray.toList = fltCells x from rfl, setCells_row HG3.out (by
              rw [List.length_append, encRow_len fltCells_len, fltCells_len]
              have := HILt.out
              have h6 : i * 6 + 6 ≤ ys.length * 6 := by omega
              omega) (one_fltl x), encRow_set fltCells_len rest HILt.out]
          clear HYes HNo
          go_wp2_with (first | ((with_reducible refine wpList_load_ob 29 (.tmp 7) bx (fltCells x) 29 HUF.out ?_ ?_ ?_ ?_ ?_); (exact rfl); (exact HV3.out); (exact rfl); (exact info_flt); simp only [Act.put, List.setIfInBounds_toArray, List.set_cons_zero, List.set_cons_succ]) | ((with_reducible refine wpList_store_mid rfl 29 (.tmp 33) (.tmp 32) rfl g (i * 6) (fltCells x).toArray ?_ ?_ ?_ ?_ ?_ ?_); (exact rfl); (exact rfl); (exact HTh.out); (exact info_flt); (exact oneCell_flt _); skip))
          go_roundw
          case rel => exact ⟨i + 1, j + 1, ys.set i x, by go_num, by go_num, by omega, by rw [← HXe.out]; exact (by have h := HK2.out; rw [HXe.out] at h ⊢; exact h), by rw [HW4.out]; exact grown_trans HB3.out (grown_setRow _ _ _), by rw [HW4.out]; exact setRow_heap _ _ _ _ _ _ HG3.out⟩
          case measure => simp [intOf]; omega
        · have HK2 := Lib.hid (HNo.out hq)
          clear HYes HNo
          go_wp2_with fail
          go_roundw
          case rel => exact ⟨i, j + 1, ys, rfl, by go_num, by omega, HK2.out, HB3.out, HG3.out⟩
          case measure => simp [intOf]; omega
      · obtain rfl : j = l.length := by omega
        have hilt : i < l.length := HK.out.lt
        have hic : ¬ (cap = i) := by have := HC.out; omega
        have hil : (i : Int) ≤ (l.length : Int) := by omega
        have hi0 : (0 : Int) ≤ (i : Int) := by omega
        have hcl0 : (i : Int) ≤ (cap : Int) := by have := HC.out; omega
        have hcl := fun ty c => run_clear_row (t := 25) fltCells_len (by decide) Try.underlying25 fltNil (.agg (fltCells fltNil).toArray) rfl zeroV_flt wr HGr.out (i := i) (by rw [HK.out.len]; exact hilt) (one_fltl _) ty c
        rw [HK.out.len] at hcl
        clear hlt
        go_wp2_with fail
        go_ret
        obtain ⟨h1, h2⟩ := HK.out.done
        refine ⟨by rw [← h2]; rfl, ⟨List.replicate (l.length - i) fltNil, ?_, ?_⟩, grown_trans HGb.out (grown_setRow _ _ _)⟩
        · rw [List.length_append, ← h2, List.length_replicate]; omega
        · rw [← h1]; exact setRow_heap _ _ _ _ _ _ HGr.out
end Go.Proofs.Ythcjkbhkidijoaa
/- the program's 'reduced' -/
namespace Go.Proofs.Ythcjkbhkidijoaa
open Go.RowKit
set_option maxRecDepth 20000
set_option linter.unusedSimpArgs false
set_option linter.unusedVariables false

def redR (f : Flt) : Flt × Bool :=
  if f.kind = 1 then (⟨f.kind, f.at_, 0, 0, 0, 0⟩, true)
  else if f.kind = 6 then (⟨f.kind, f.at_, 0, 0, 0, 0⟩, true)
  else if f.kind = 2 then (⟨f.kind, f.at_, 0, f.target, 0, 0⟩, true)
  else if f.kind = 3 then (⟨f.kind, f.at_, 0, 0, f.byte, 0⟩, true)
  else if f.kind = 4 then (⟨f.kind, f.at_, f.page, 0, f.byte, f.mask⟩, true)
  else if f.kind = 5 then (⟨f.kind, f.at_, f.page, 0, 0, 0⟩, true)
  else (fltNil, false)
def RedPost (x : Flt) (w : World) (e : Ending) (w' : World) : Prop := e = .returned (.tuple #[.agg (fltCells (redR x).1).toArray, .bool (redR x).2]) ∧ Below w.heap.size w w'
theorem heap_mid3 (w : World) (x y z : Obj) : (((w.alloc x).alloc y).alloc z).heap[w.heap.size + 1]? = some y := by
  simp only [World.alloc, Array.getElem?_push, Array.size_push]
  rw [if_neg (by omega), if_pos trivial]
theorem below3 (w : World) (x y z : Obj) : Below w.heap.size w (((w.alloc x).alloc y).alloc z) :=
  (((Below.refl _ _).alloc (Nat.le_refl _) _).alloc (by simp) _).alloc (by simp; omega) _
set_option maxHeartbeats 4000000 in
theorem reduced_1 (t p g b m : Int) (w : World) : Calls Try.prog 70 #[.agg #[.int .i64 1, .int .i64 t, .int .i64 p, .int .i64 g, .int .i64 b, .int .u8 m]] w (RedPost ⟨1, t, p, g, b, m⟩ w) := by
  have HR : Hid (redR ⟨1, t, p, g, b, m⟩ = (⟨1, t, 0, 0, 0, 0⟩, true)) := rfl
  obtain ⟨fs, huf⟩ := under_flt
  have HUF := Lib.hid huf
  clear huf
  go_enter Try.func70, Try.ntmps70
  go_wp2
  refine bodyPost_ret (results_ob_tmp Try.results70 _ _ (w.heap.size + 1) (fltCells ⟨1, t, 0, 0, 0, 0⟩) 29 _ rfl (heap_mid3 w _ _ _) HUF.out rfl info_flt) rfl ?_
  exact ⟨by rw [HR.out]; rfl, below3 w _ _ _⟩
set_option maxHeartbeats 4000000 in
theorem reduced_6 (t p g b m : Int) (w : World) : Calls Try.prog 70 #[.agg #[.int .i64 6, .int .i64 t, .int .i64 p, .int .i64 g, .int .i64 b, .int .u8 m]] w (RedPost ⟨6, t, p, g, b, m⟩ w) := by
  have HR : Hid (redR ⟨6, t, p, g, b, m⟩ = (⟨6, t, 0, 0, 0, 0⟩, true)) := rfl
  obtain ⟨fs, huf⟩ := under_flt
  have HUF := Lib.hid huf
  clear huf
  go_enter Try.func70, Try.ntmps70
  go_wp2
  refine bodyPost_ret (results_ob_tmp Try.results70 _ _ (w.heap.size + 1) (fltCells ⟨6, t, 0, 0, 0, 0⟩) 29 _ rfl (heap_mid3 w _ _ _) HUF.out rfl info_flt) rfl ?_
  exact ⟨by rw [HR.out]; rfl, below3 w _ _ _⟩
set_option maxHeartbeats 4000000 in
theorem reduced_2 (t p g b m : Int) (w : World) : Calls Try.prog 70 #[.agg #[.int .i64 2, .int .i64 t, .int .i64 p, .int .i64 g, .int .i64 b, .int .u8 m]] w (RedPost ⟨2, t, p, g, b, m⟩ w) := by
  have HR : Hid (redR ⟨2, t, p, g, b, m⟩ = (⟨2, t, 0, g, 0, 0⟩, true)) := rfl
  obtain ⟨fs, huf⟩ := under_flt
  have HUF := Lib.hid huf
  clear huf
  go_enter Try.func70, Try.ntmps70
  go_wp2
  refine bodyPost_ret (results_ob_tmp Try.results70 _ _ (w.heap.size + 1) (fltCells ⟨2, t, 0, g, 0, 0⟩) 29 _ rfl (heap_mid3 w _ _ _) HUF.out rfl info_flt) rfl ?_
  exact ⟨by rw [HR.out]; rfl, below3 w _ _ _⟩
set_option maxHeartbeats 4000000 in
theorem reduced_3 (t p g b m : Int) (w : World) : Calls Try.prog 70 #[.agg #[.int .i64 3, .int .i64 t, .int .i64 p, .int .i64 g, .int .i64 b, .int .u8 m]] w (RedPost ⟨3, t, p, g, b, m⟩ w) := by
  have HR : Hid (redR ⟨3, t, p, g, b, m⟩ = (⟨3, t, 0, 0, b, 0⟩, true)) := rfl
  obtain ⟨fs, huf⟩ := under_flt
  have HUF := Lib.hid huf
  clear huf
  go_enter Try.func70, Try.ntmps70
  go_wp2
  refine bodyPost_ret (results_ob_tmp Try.results70 _ _ (w.heap.size + 1) (fltCells ⟨3, t, 0, 0, b, 0⟩) 29 _ rfl (heap_mid3 w _ _ _) HUF.out rfl info_flt) rfl ?_
  exact ⟨by rw [HR.out]; rfl, below3 w _ _ _⟩
set_option maxHeartbeats 4000000 in
theorem reduced_4 (t p g b m : Int) (w : World) : Calls Try.prog 70 #[.agg #[.int .i64 4, .int .i64 t, .int .i64 p, .int .i64 g, .int .i64 b, .int .u8 m]] w (RedPost ⟨4, t, p, g, b, m⟩ w) := by
  have HR : Hid (redR ⟨4, t, p, g, b, m⟩ = (⟨4, t, p, 0, b, m⟩, true)) := rfl
  obtain ⟨fs, huf⟩ := under_flt
  have HUF := Lib.hid huf
  clear huf
  go_enter Try.func70, Try.ntmps70
  go_wp2
  go_region
  go_wp2
  refine bodyPost_ret (results_ob_tmp Try.results70 _ _ (w.heap.size + 1) (fltCells ⟨4, t, p, 0, b, m⟩) 29 _ rfl (heap_mid3 w _ _ _) HUF.out rfl info_flt) rfl ?_
  exact ⟨by rw [HR.out]; rfl, (below3 w _ _ _).drew⟩
set_option maxHeartbeats 4000000 in
theorem reduced_5 (t p g b m : Int) (w : World) : Calls Try.prog 70 #[.agg #[.int .i64 5, .int .i64 t, .int .i64 p, .int .i64 g, .int .i64 b, .int .u8 m]] w (RedPost ⟨5, t, p, g, b, m⟩ w) := by
  have HR : Hid (redR ⟨5, t, p, g, b, m⟩ = (⟨5, t, p, 0, 0, 0⟩, true)) := rfl
  obtain ⟨fs, huf⟩ := under_flt
  have HUF := Lib.hid huf
  clear huf
  go_enter Try.func70, Try.ntmps70
  go_wp2
  refine bodyPost_ret (results_ob_tmp Try.results70 _ _ (w.heap.size + 1) (fltCells ⟨5, t, p, 0, 0, 0⟩) 29 _ rfl (heap_mid3 w _ _ _) HUF.out rfl info_flt) rfl ?_
  exact ⟨by rw [HR.out]; rfl, below3 w _ _ _⟩
set_option maxHeartbeats 4000000 in
theorem reduced_0 (k : Int) (t p g b m : Int) (w : World) (k1 : ¬ k = 1) (k2 : ¬ k = 2) (k3 : ¬ k = 3) (k4 : ¬ k = 4) (k5 : ¬ k = 5) (k6 : ¬ k = 6) : Calls Try.prog 70 #[.agg #[.int .i64 k, .int .i64 t, .int .i64 p, .int .i64 g, .int .i64 b, .int .u8 m]] w (RedPost ⟨k, t, p, g, b, m⟩ w) := by
  have HR : Hid (redR ⟨k, t, p, g, b, m⟩ = (fltNil, false)) := by show _ = _; simp [redR, k1, k2, k3, k4, k5, k6]
  have e1 : (k == 1) = false := by rw [beq_eq_false_iff_ne]; exact k1
  have e2 : (k == 2) = false := by rw [beq_eq_false_iff_ne]; exact k2
  have e3 : (k == 3) = false := by rw [beq_eq_false_iff_ne]; exact k3
  have e4 : (k == 4) = false := by rw [beq_eq_false_iff_ne]; exact k4
  have e5 : (k == 5) = false := by rw [beq_eq_false_iff_ne]; exact k5
  have e6 : (k == 6) = false := by rw [beq_eq_false_iff_ne]; exact k6
  clear k1 k2 k3 k4 k5 k6
  obtain ⟨fs, huf⟩ := under_flt
  have HUF := Lib.hid huf
  clear huf
  go_enter Try.func70, Try.ntmps70
  go_wp2
  refine bodyPost_ret (results_ob_tmp Try.results70 _ _ (w.heap.size + 1) (fltCells fltNil) 29 _ rfl (heap_mid3 w _ _ _) HUF.out rfl info_flt) rfl ?_
  exact ⟨by rw [HR.out]; rfl, below3 w _ _ _⟩
theorem reduced_any (x : Flt) (w : World) : Calls Try.prog 70 #[.agg (fltCells x).toArray] w (RedPost x w) := by
  obtain ⟨k, t, p, g, b, m⟩ := x
  by_cases k1 : k = 1
  · subst k1; exact reduced_1 t p g b m w
  by_cases k6 : k = 6
  · subst k6; exact reduced_6 t p g b m w
  by_cases k2 : k = 2
  · subst k2; exact reduced_2 t p g b m w
  by_cases k3 : k = 3
  · subst k3; exact reduced_3 t p g b m w
  by_cases k4 : k = 4
  · subst k4; exact reduced_4 t p g b m w
  by_cases k5 : k = 5
  · subst k5; exact reduced_5 t p g b m w
  exact reduced_0 k t p g b m w k1 k2 k3 k4 k5 k6
end Go.Proofs.Ythcjkbhkidijoaa
/- the program's isPage and its check of the pages -/
namespace Go.Proofs.Ythcjkbhkidijoaa
open Go.RowKit
set_option maxRecDepth 20000

def all256 (l : List ByteArray) : Bool := l.all fun s => decide (s.size = 256)
/-- where a search ends: -1 if none is found -/
def IdxIs (none : Bool) (r : Int) : Prop := if none = true then r = -1 else 0 ≤ r
def inB (n : Nat) (page : Int) : Bool := !decide (page < 0) && !decide ((n : Int) ≤ page)
set_option maxHeartbeats 2000000 in
theorem isPage_any (d : Dv) (pa ua fa : Option Addr) (pc uc fc : Nat) (page : Int) (w : World) :
    Calls Try.prog 59 #[.agg #[.slice pa d.pages.length pc, .int .i64 d.writes, .slice ua d.unread.length uc, .bool d.dead, .slice fa d.faults.length fc], .int .i64 page] w fun e w' => e = .returned (.bool (inB d.pages.length page)) ∧ Below w.heap.size w w' := by
  have fin : Hid (∀ W, W = (w.alloc (.cells #[.slice pa d.pages.length pc, .int .i64 d.writes, .slice ua d.unread.length uc, .bool d.dead, .slice fa d.faults.length fc] 27)) → Below w.heap.size w W) := by
    rintro W rfl
    exact (Below.refl _ _).alloc (Nat.le_refl _) _
  generalize d.pages.length = n at *
  by_cases c1 : page < 0
  · have HX : Hid (inB n page = false) := by show _ = _; unfold inB; simp [c1]
    have c2 : ¬ 0 ≤ page := by omega
    clear c1
    go_enter Try.func59, Try.ntmps59
    go_wp2
    go_ret
    exact ⟨by rw [HX.out]; rfl, fin.out _ rfl⟩
  · have c2 : 0 ≤ page := by omega
    by_cases c3 : (n : Int) ≤ page
    · have HX : Hid (inB n page = false) := by show _ = _; unfold inB; simp [c3]
      have c4 : ¬ page < (n : Int) := by omega
      clear c1 c3
      go_enter Try.func59, Try.ntmps59
      go_wp2
      go_ret
      exact ⟨by rw [HX.out]; rfl, fin.out _ rfl⟩
    · have HX : Hid (inB n page = true) := by show _ = _; unfold inB; simp [c1, c3]
      have c4 : page < (n : Int) := by omega
      clear c1 c3
      go_enter Try.func59, Try.ntmps59
      go_wp2
      go_ret
      exact ⟨by rw [HX.out]; rfl, fin.out _ rfl⟩
set_option maxHeartbeats 4000000 in
theorem idxStr_any (l : List ByteArray) (v : Value) (R : List Rng) (w : World) (hv : SlRd v 1 l.length (strRow l) R) (hR : RdIn w R) (hs256 : ∀ s ∈ l, s.size ≤ maxLen) (hl : l.length ≤ 64) :
    Calls Try.prog 79 #[v, .func (.func 67) #[] #[]] w fun e w' => ∃ r : Int, e = .returned (.int .i64 r) ∧ IdxIs (all256 l) r ∧ Below w.heap.size w w' := by
  obtain ⟨a, cap, rfl, hnc, hcm, hg⟩ := hv.open hR
  have HC : Hid (l.length ≤ cap ∧ cap ≤ maxLen) := ⟨hnc, hcm⟩
  have HS := Lib.hid hs256
  have HL := Lib.hid hl
  clear hv hR hnc hcm hs256 hl
  go_enter Try.func79, Try.ntmps79
  go_wp2_with fail
  go_loopw [8] (fun i wr => ∃ k : Nat, k ≤ l.length ∧ i = .int .i64 k ∧ (l.take k).all (fun s => decide (s.size = 256)) = true ∧ Below w.heap.size w wr) (fun i _ => l.length - (intOf i).toNat)
  case atStart => exact ⟨0, by omega, rfl, rfl, Below.refl _ _⟩
  case round =>
    obtain ⟨k, hk, rfl, hh, hb⟩ := hrel
    have HB := Lib.hid hb
    have HH := Lib.hid hh
    clear hb hh
    by_cases hlt : k < l.length
    · obtain ⟨g, off, rfl, hr⟩ := hg.out (by omega)
      have hcell : wr.cell? ⟨g, off + k, none⟩ = some (.string l[k]) := hr wr HB.out k _ (strRow_at l k hlt)
      have hki : (k : Int) < (l.length : Int) := by omega
      have hk0 : (0 : Int) ≤ (k : Int) := by omega
      have hkm : (k : Int) < 1000 := by have := HL.out; omega
      have hsz : (l[k].size : Int) ≤ 9223372036854775807 := by have := HS.out _ (List.getElem_mem hlt); unfold maxLen at this; omega
      have HLt := Lib.hid hlt
      by_cases hx : l[k].size = 256
      · have hxb : ((l[k].size : Int) != 256) = false := by simp [hx]
        have HX := Lib.hid (all_take (f := fun s => decide (s.size = 256)) hlt HH.out (decide_eq_true hx))
        clear hr hx hsz
        generalize l[k] = y at *
        go_wp2
        go_roundw
        case rel => exact ⟨k + 1, by omega, by go_num, HX.out, HB.out⟩
        case measure => simp [intOf]; omega
      · have hxb : ((l[k].size : Int) != 256) = true := by simp; omega
        have HX : Hid (all256 l = false) := by
          show _ = _
          exact all_no (f := fun s => decide (s.size = 256)) hlt (decide_eq_false hx)
        clear hr hx hsz
        generalize l[k] = y at *
        go_wp2
        go_ret
        exact ⟨(k : Int), rfl, by rw [HX.out]; show (0 : Int) ≤ k; omega, HB.out⟩
    · obtain rfl : k = l.length := by omega
      rw [List.take_length] at HH
      go_wp2
      go_ret
      exact ⟨-1, rfl, by rw [show all256 l = true from HH.out]; rfl, HB.out⟩
set_option maxHeartbeats 4000000 in
theorem validPages_any (l : List ByteArray) (v : Value) (R : List Rng) (w : World) (hv : SlRd v 1 l.length (strRow l) R) (hR : RdIn w R) (hs256 : ∀ s ∈ l, s.size ≤ maxLen) :
    Calls Try.prog 50 #[v] w fun e w' => e = .returned (.bool (!decide ((l.length : Int) < 1) && (!decide (64 < (l.length : Int)) && all256 l))) ∧ Below w.heap.size w w' := by
  have HI : Hid (l.length ≤ 64 → ∀ W, Below w.heap.size w W → Calls Try.prog 79 #[v, .func (.func 67) #[] #[]] W fun e w' => ∃ r : Int, e = .returned (.int .i64 r) ∧ IdxIs (all256 l) r ∧ Below W.heap.size W w') := fun hl W hb => idxStr_any l v R W hv (hR.below hb) hs256 hl
  obtain ⟨a, cap, rfl, hnc, hcm, hg⟩ := hv.open hR
  have HC : Hid (l.length ≤ cap ∧ cap ≤ maxLen) := ⟨hnc, hcm⟩
  clear hv hR hnc hcm hs256 hg
  by_cases c1 : (l.length : Int) < 1
  · have HX := Lib.hid c1
    go_enter Try.func50, Try.ntmps50
    go_wp2_with fail
    go_ret
    exact ⟨ret_bool (by simp [HX.out]), Below.refl _ _⟩
  by_cases c2 : 64 < (l.length : Int)
  · have HX := Lib.hid c2
    go_enter Try.func50, Try.ntmps50
    go_wp2_with fail
    go_ret
    exact ⟨ret_bool (by simp [HX.out]), Below.refl _ _⟩
  · have H1 := Lib.hid c1
    have H2 := Lib.hid c2
    have hcall := HI.out (by omega)
    clear HI
    go_enter Try.func50, Try.ntmps50
    go_wp2_with (first | (go_at_call 79; refine (hcall _ (Below.refl _ _)).mono ?_; rintro e w2 ⟨r, rfl, hr1, hb⟩) | go_in)
    all_goals (
      go_ret
      refine ⟨ret_bool ?_, hb⟩
      have e1 := H1.out
      have e2 := H2.out
      unfold IdxIs at hr1
      cases hall : all256 l
      · rw [hall, if_neg (by decide)] at hr1
        first | (simp [*]; done) | (exfalso; omega)
      · rw [hall, if_pos rfl] at hr1
        subst hr1
        first | (simp [e1, e2]; done) | (exfalso; omega) | simp_all)
end Go.Proofs.Ythcjkbhkidijoaa
/- the program's check of the unreadable pages -/
namespace Go.Proofs.Ythcjkbhkidijoaa
open Go.RowKit
set_option maxRecDepth 20000
set_option linter.unusedSimpArgs false
set_option linter.unusedVariables false

theorem isPage_dv {p u f : Value} {d : Dv} {R : List Rng} (page : Int) (w : World) (h : DvRd p u f d R) :
    Calls Try.prog 59 #[.agg (dvCells p d u f).toArray, .int .i64 page] w fun e w' => e = .returned (.bool (inB d.pages.length page)) ∧ Below w.heap.size w w' := by
  obtain ⟨pa, pc, rfl, _⟩ := h.pages
  obtain ⟨ua, uc, rfl, _⟩ := h.unread
  obtain ⟨fa, fc, rfl, _⟩ := h.faults
  exact isPage_any d pa ua fa pc uc fc page w
/-- what stood before the k-th one -/
def befI (l : List Int) (k : Nat) : Int := if k = 0 then -1 else l.getD (k - 1) 0
theorem unreadAt_prog {n : Nat} {l : List Int} {k : Nat} {y : Int} (hy : l.getD k 0 = y) (h0 : ∀ j, j < k → 0 ≤ l.getD j 0) :
    unreadAtB n l k = (!decide (y ≤ befI l k) && inB n y) := by
  unfold unreadAtB inB befI
  rw [hy]
  by_cases hk : k = 0
  · subst hk
    by_cases h1 : y < 0
    · simp [h1]
    · have h2 : ¬ y ≤ -1 := by omega
      simp [h1, h2]
  · have := h0 (k - 1) (by omega)
    rw [if_neg hk]
    have hk0 : 0 < k := by omega
    by_cases h1 : y < 0
    · simp [h1, hk0]
    · simp [h1, hk0, Bool.and_comm]
theorem unread_pos {n : Nat} {l : List Int} {k : Nat} (h : (List.range k).all (unreadAtB n l) = true) : ∀ j, j < k → 0 ≤ l.getD j 0 := by
  intro j hj
  have := (List.all_eq_true.1 h) j (List.mem_range.2 hj)
  unfold unreadAtB at this
  simp only [Bool.and_eq_true, Bool.not_eq_true', decide_eq_false_iff_not] at this
  omega
set_option maxHeartbeats 4000000 in
theorem validUn_any {p u f : Value} {d : Dv} {R : List Rng} (w : World) (h : DvRd p u f d R) (hR : RdIn w R) (hl : d.unread.length ≤ 1000) :
    Calls Try.prog 51 #[.agg (dvCells p d u f).toArray] w fun e w' => e = .returned (.bool (unreadB d)) ∧ Below w.heap.size w w' := by
  have HI : Hid (∀ page W, Calls Try.prog 59 #[.agg (dvCells p d u f).toArray, .int .i64 page] W fun e w' => e = .returned (.bool (inB d.pages.length page)) ∧ Below W.heap.size W w') := fun page W => isPage_dv page W h
  obtain ⟨fs, hud⟩ := under_dv
  have HUD := Lib.hid hud
  clear hud
  obtain ⟨pa, pc, rfl, hp1, _, hP2⟩ := h.pages.open hR
  obtain ⟨ua, uc, rfl, hu1, hu3, hU2⟩ := h.unread.open hR
  obtain ⟨fa, fc, rfl, hf1, _, hF2⟩ := h.faults.open hR
  have HC : Hid (d.unread.length ≤ uc ∧ uc ≤ maxLen) := ⟨hu1, hu3⟩
  have HL := Lib.hid hl
  clear h hR hP2 hF2 hl hu1 hu3
  have h1 := (Hp.start w).put 27 (dvCells (.slice pa d.pages.length pc) d (.slice ua d.unread.length uc) (.slice fa d.faults.length fc))
  have HS0 : Hid (Hp w [.ob w.heap.size 27 (dvCells (.slice pa d.pages.length pc) d (.slice ua d.unread.length uc) (.slice fa d.faults.length fc))] (w.alloc (.cells (dvCells (.slice pa d.pages.length pc) d (.slice ua d.unread.length uc) (.slice fa d.faults.length fc)).toArray 27))) := h1
  clear h1
  have b2 : (w.alloc (.cells (dvCells (.slice pa d.pages.length pc) d (.slice ua d.unread.length uc) (.slice fa d.faults.length fc)).toArray 27)).cell? ⟨w.heap.size, 2, none⟩ = some (.slice ua d.unread.length uc) := HS0.out.at 0 rfl 2 rfl
  go_enter Try.func51, Try.ntmps51
  go_wp2_with fail
  clear b2
  go_loopw [3, 9] (fun bf i wr => ∃ k : Nat, k ≤ d.unread.length ∧ bf = .int .i64 (befI d.unread k) ∧ i = .int .i64 k ∧ (List.range k).all (unreadAtB d.pages.length d.unread) = true ∧ Hp w [.ob w.heap.size 27 (dvCells (.slice pa d.pages.length pc) d (.slice ua d.unread.length uc) (.slice fa d.faults.length fc))] wr) (fun _ i _ => d.unread.length - (intOf i).toNat)
  case atStart => exact ⟨0, by omega, rfl, rfl, rfl, HS0.out⟩
  case round =>
    obtain ⟨k, hk, rfl, rfl, hh, hs⟩ := hrel
    clear HS0
    have HY := Lib.hid hs
    have HH := Lib.hid hh
    clear hs hh
    by_cases hlt : k < d.unread.length
    · obtain ⟨g, off, rfl, hr⟩ := hU2.out (by omega)
      obtain ⟨y, hy⟩ : ∃ y, d.unread[k] = y := ⟨_, rfl⟩
      have hcell : wr.cell? ⟨g, off + k, none⟩ = some (.int .i64 y) := by rw [← hy]; exact hr wr HY.out.old k _ (intRow_at d.unread k hlt)
      have hyD : d.unread.getD k 0 = y := by rw [List.getD_eq_getElem?_getD, List.getElem?_eq_getElem hlt]; exact hy
      have hki : (k : Int) < (d.unread.length : Int) := by omega
      have hk0 : (0 : Int) ≤ (k : Int) := by omega
      have hkm : (k : Int) < 1000 := by have := HL.out; omega
      have HAt := Lib.hid (unreadAt_prog (n := d.pages.length) hyD (unread_pos HH.out))
      have HNo : Hid (unreadAtB d.pages.length d.unread k = false → unreadB d = false) := fun h => range_no hlt h
      have HYes : Hid (unreadAtB d.pages.length d.unread k = true → (List.range (k + 1)).all (unreadAtB d.pages.length d.unread) = true) := fun h => range_take HH.out h
      have HBf : Hid (befI d.unread (k + 1) = y) := by show _ = _; unfold befI; rw [if_neg (by omega), Nat.add_sub_cancel]; exact hyD
      clear hr hy hyD
      generalize befI d.unread k = bf at *
      by_cases hA : y ≤ bf
      · have HX : Hid (unreadB d = false) := HNo.out (by rw [HAt.out]; simp [hA])
        clear HAt HNo HYes HBf
        go_wp2_with fail
        go_ret
        exact ⟨by rw [HX.out]; rfl, HY.out.old⟩
      · have hcall := HI.out y
        go_wp2_with (first | ((with_reducible refine wpList_load_ob_w 27 (.tmp 1) (w.heap.size) (dvCells (.slice pa d.pages.length pc) d (.slice (some ⟨g, off, none⟩) d.unread.length uc) (.slice fa d.faults.length fc)) 27 HUD.out ?_ ?_ ?_ ?_ ?_ ?_); (exact rfl); (exact rfl); (exact (HY.out).get 0 rfl); (exact rfl); (exact info_dv); simp only [Act.put, List.setIfInBounds_toArray, List.set_cons_zero, List.set_cons_succ]) | (go_at_call 59; refine (hcall _).mono ?_; rintro e w2 ⟨rfl, hb⟩))
        all_goals (have HB := Lib.hid (HY.out.calls hb); clear hb)
        · rename_i hin
          have HX : Hid (unreadB d = false) := HNo.out (by rw [HAt.out]; simp_all)
          go_ret
          exact ⟨by rw [HX.out]; rfl, HB.out.old⟩
        · have HX : Hid ((List.range (k + 1)).all (unreadAtB d.pages.length d.unread) = true) := HYes.out (by rw [HAt.out]; simp_all)
          go_roundw
          case rel => exact ⟨k + 1, by omega, by rw [HBf.out], by go_num, HX.out, HB.out⟩
          case measure => simp [intOf]; omega
    · obtain rfl : k = d.unread.length := by omega
      have HX : Hid (unreadB d = true) := HH.out
      clear HH
      go_wp2_with fail
      go_ret
      exact ⟨by rw [HX.out]; rfl, HY.out.old⟩
end Go.Proofs.Ythcjkbhkidijoaa
/- the program's check of a fault -/
namespace Go.Proofs.Ythcjkbhkidijoaa
open Go.RowKit
set_option maxRecDepth 20000
set_option linter.unusedSimpArgs false
set_option linter.unusedVariables false

theorem neq_flt {a b : Flt} (ha : GoodFlt a) (hb : GoodFlt b) (W : World) : Sem.run Try.prog (binOp .neq 29 (.agg (fltCells a).toArray) (.agg (fltCells b).toArray)) W = .ok (.bool (!sameV a b)) W := run_neq (equal_flt a b ha hb) W
/-- what the first test refuses -/
noncomputable def formB (x : Flt) : Bool := (redR x).2 && (sameV (redR x).1 x && !(decide (x.kind = 4) && decide (x.mask = 0)))
theorem red_good {x : Flt} (h : GoodFlt x) : GoodFlt (redR x).1 := by
  unfold redR
  split <;> (try exact ⟨h.kind, h.at_, wf0, wf0, wf0, wf0b⟩)
  split <;> (try exact ⟨h.kind, h.at_, wf0, wf0, wf0, wf0b⟩)
  split <;> (try exact ⟨h.kind, h.at_, wf0, h.target, wf0, wf0b⟩)
  split <;> (try exact ⟨h.kind, h.at_, wf0, wf0, h.byte, wf0b⟩)
  split <;> (try exact ⟨h.kind, h.at_, h.page, wf0, h.byte, h.mask⟩)
  split <;> (try exact ⟨h.kind, h.at_, h.page, wf0, wf0, wf0b⟩)
  exact ⟨wf0, wf0, wf0, wf0, wf0, wf0b⟩
theorem formB_shape (x : Flt) : formB x = shapeB x := by
  obtain ⟨k, t, p, g, b, m⟩ := x
  rw [Bool.eq_iff_iff]
  unfold formB
  rw [Bool.and_eq_true, Bool.and_eq_true, sameV_iff]
  unfold redR shapeB
  simp only
  by_cases k1 : k = 1
  · subst k1; simp only [Flt.mk.injEq, reduceIte, true_and, and_true, decide_eq_true_eq, Bool.and_eq_true, Bool.not_eq_true', decide_eq_false_iff_not, Bool.and_eq_false_iff, decide_not, Int.reduceEq, decide_true, decide_false, Bool.true_eq_false, false_or, Bool.false_and, not_false_eq_true]; omega
  by_cases k6 : k = 6
  · subst k6; simp only [Flt.mk.injEq, reduceIte, true_and, and_true, decide_eq_true_eq, Bool.and_eq_true, Bool.not_eq_true', decide_eq_false_iff_not, Bool.and_eq_false_iff, decide_not, Int.reduceEq, decide_true, decide_false, Bool.true_eq_false, false_or, Bool.false_and, not_false_eq_true]; omega
  by_cases k2 : k = 2
  · subst k2; simp only [Flt.mk.injEq, reduceIte, true_and, and_true, decide_eq_true_eq, Bool.and_eq_true, Bool.not_eq_true', decide_eq_false_iff_not, Bool.and_eq_false_iff, decide_not, Int.reduceEq, decide_true, decide_false, Bool.true_eq_false, false_or, Bool.false_and, not_false_eq_true]; omega
  by_cases k3 : k = 3
  · subst k3; simp only [Flt.mk.injEq, reduceIte, true_and, and_true, decide_eq_true_eq, Bool.and_eq_true, Bool.not_eq_true', decide_eq_false_iff_not, Bool.and_eq_false_iff, decide_not, Int.reduceEq, decide_true, decide_false, Bool.true_eq_false, false_or, Bool.false_and, not_false_eq_true]; omega
  by_cases k4 : k = 4
  · subst k4; simp only [Flt.mk.injEq, reduceIte, true_and, and_true, decide_eq_true_eq, Bool.and_eq_true, Bool.not_eq_true', decide_eq_false_iff_not, Bool.and_eq_false_iff, decide_not, Int.reduceEq, decide_true, decide_false, Bool.true_eq_false, false_or, Bool.false_and, not_false_eq_true]; omega
  by_cases k5 : k = 5
  · subst k5; simp only [Flt.mk.injEq, reduceIte, true_and, and_true, decide_eq_true_eq, Bool.and_eq_true, Bool.not_eq_true', decide_eq_false_iff_not, Bool.and_eq_false_iff, decide_not, Int.reduceEq, decide_true, decide_false, Bool.true_eq_false, false_or, Bool.false_and, not_false_eq_true]; omega
  · simp [k1, k2, k3, k4, k5, k6]
/-- the ranges, as the program asks -/
def rangesP (n : Nat) (w : Int) (x : Flt) : Bool := decide (w < x.at_) && (decide (x.at_ ≤ 1099511627776) && (inB n x.page && (inB n x.target && (decide (0 ≤ x.byte) && decide (x.byte < 256)))))
theorem rangesP_eq (n : Nat) (w : Int) (x : Flt) : rangesP n w x = rangesB n w x := by
  unfold rangesP rangesB inB
  rw [Bool.eq_iff_iff]
  simp only [Bool.and_eq_true, Bool.not_eq_true', decide_eq_true_eq, decide_eq_false_iff_not]
  constructor
  · rintro ⟨h1, h2, ⟨h3, h4⟩, ⟨h5, h6⟩, h7, h8⟩
    exact ⟨by omega, by omega, h3, h4, h5, h6, by omega, by omega⟩
  · rintro ⟨h1, h2, h3, h4, h5, h6, h7, h8⟩
    exact ⟨by omega, by omega, ⟨h3, h4⟩, ⟨h5, h6⟩, by omega, by omega⟩
end Go.Proofs.Ythcjkbhkidijoaa
