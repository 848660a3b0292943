/- texts of a claim, one after the other: the choices of the drawing package: what Next gives lies in its range, and nothing but the place in the codes is changed, numbers as bytes, texts, and small facts on conversions: no walk, the choices of the drawing package: New and Spoilt, small things about memory that all texts use, what all laws begin with: the choices, objects in memory, and what a walk keeps of them, cells as values, whether two cells are equal, as the program compares them, the choices of the drawing package: Data, the choices of the drawing package: Cell, changes as values, entries as values, which of them are valid, and how they are compared, what a walk keeps of memory: objects, slices of its own, choices; what was there is as it was, a call that turns one object that it was handed: all else is as it was, the walks of Put and Get of the program, the reader of the program: fail, number, data, the walks of Put and Get of the reference, the cursor of the reference: number, bytes, the walk of the reference's check of a cell, the walks of Valid of changes, the program's and the reference's, the walks of the functions that a rule of entries is made of -/
import Derived.Test.YtgljhfofikjbdaaRows
import Derived.WalkKit
import Derived.WalkSpells
import Derived.WalkLawsBesides
import Derived.Lib.Hide
import Derived.Below
import Derived.RegionTactic
import Derived.ChangeAlike
import Derived.Deep.QuietTactic
import Derived.BigQuiet
import Derived.LoopN
import Derived.ProofKit
import Derived.OpenShut
import Derived.Deep.MidRow
import Derived.Deep.OwnRows
import Derived.Laws.CopyOwn
import Derived.KernelRfl
import Derived.BigRegion
import Derived.Deep.RegionWith
import Derived.Deep.RegionHeld3
import Derived.Deep.WholeRow
import Derived.Laws.ResultCell
import Derived.DeepKeys
import Derived.Maps.AppendAt
import Derived.Deep.DeepCutAuto
import Derived.Great.BuildSlice
import Derived.Shelf.Abstract
/- the choices of the drawing package: what Next gives lies in its range, and nothing but the place in the codes is changed -/
namespace Go.Proofs.Ytgljhfofikjbdaa
open Go.RowKit
set_option maxRecDepth 20000

/-- nothing that was there is changed, but for block C -/
structure Besides (C : Nat) (w w' : World) : Prop where
  os : w'.os = w.os
  tape : w'.tape = w.tape
  output : w'.output = w.output
  size : w.heap.size ≤ w'.heap.size
  block : ∀ k, k < w.heap.size → k ≠ C → w'.heap[k]? = w.heap[k]?
  head : C < w.heap.size → w'.cell? ⟨C, 0, none⟩ = w.cell? ⟨C, 0, none⟩
theorem Besides.refl (C : Nat) (w : World) : Besides C w w := ⟨rfl, rfl, rfl, Nat.le_refl _, fun _ _ _ => rfl, fun _ => rfl⟩
theorem Besides.trans {C : Nat} {a b c : World} (h : Besides C a b) (k : Besides C b c) : Besides C a c :=
  ⟨k.os.trans h.os, k.tape.trans h.tape, k.output.trans h.output, Nat.le_trans h.size k.size, fun i hi hC => (k.block i (Nat.lt_of_lt_of_le hi h.size) hC).trans (h.block i hi hC), fun hC => (k.head (Nat.lt_of_lt_of_le hC h.size)).trans (h.head hC)⟩
theorem Besides.of_below {C : Nat} {w w' : World} (h : Below w.heap.size w w') : Besides C w w' := ⟨h.os, h.tape, h.output, h.size, fun k hk _ => h.block k hk, fun hC => World.cell?_of_block (a := ⟨C, 0, none⟩) (h.block C hC)⟩
theorem Besides.below {C B : Nat} {w w' : World} (h : Besides C w w') (hC : B ≤ C) (hB : B ≤ w.heap.size) : Below B w w' := ⟨h.os, h.tape, h.output, h.size, fun k hk => h.block k (by omega) (by omega)⟩
theorem Besides.cell {C : Nat} {w w' : World} (h : Besides C w w') {p : Addr} (hp : p.block < w.heap.size) (hC : p.block ≠ C) : w'.cell? p = w.cell? p := World.cell?_of_block (h.block p.block hp hC)
theorem Besides.frozen {C : Nat} {w w' : World} (h : Besides C w w') {p : Addr} (hp : p.block < w.heap.size) (hC : p.block ≠ C) : w'.frozen? p = w.frozen? p := World.frozen?_of_block (h.block p.block hp hC)
theorem Besides.drewN {C : Nat} {a w : World} (h : Besides C a w) (n : Nat) : Besides C a (w.drewN n) := ⟨h.os, h.tape, h.output, h.size, h.block, h.head⟩
theorem Besides.drew {C : Nat} {a w : World} (h : Besides C a w) : Besides C a w.drew := ⟨h.os, h.tape, h.output, h.size, h.block, h.head⟩
theorem Besides.alloc {C : Nat} {a w : World} (h : Besides C a w) (o : Obj) : Besides C a (w.alloc o) :=
  h.trans ⟨rfl, rfl, rfl, by simp, fun k hk _ => Below.heap_alloc _ _ _ hk, fun hC => World.cell?_alloc_lt _ _ _ hC⟩
theorem Besides.set {C : Nat} {a w : World} (h : Besides C a w) (j : Nat) (u : Value) (hj : j ≠ 0) : Besides C a (w.setCell ⟨C, j, none⟩ u) :=
  h.trans ⟨rfl, rfl, rfl, by simp [World.setCell], fun k _ hC => Below.heap_setCell _ _ _ _ hC, fun _ => World.cell?_setCell_other _ _ _ _ (fun e => hj (by injection e))⟩
/-- a value of codes lies at block C -/
def CodesAt (w : World) (C : Nat) (a : Option Addr) (len cap : Nat) (i : Int) : Prop :=
  C < w.heap.size ∧ w.cell? ⟨C, 0, none⟩ = some (.slice a len cap) ∧ w.cell? ⟨C, 1, none⟩ = some (.int .i64 i) ∧ w.frozen? ⟨C, 1, none⟩ = false ∧ 0 ≤ i ∧ i ≤ 9223372036854775806 ∧ len ≤ 4611686018427387904
    ∧ (0 < len → ∃ b off, a = some ⟨b, off, none⟩ ∧ b < C ∧ ∀ j, j < len → ∃ z : Int, w.cell? ⟨b, off + j, none⟩ = some (.int .u8 z) ∧ 0 ≤ z ∧ z ≤ 255)
def CodesOk (w : World) (C : Nat) : Prop := ∃ a len cap i, CodesAt w C a len cap i
/-- codes stay codes while their block and older ones stay -/
theorem CodesAt.keep {w w' : World} {C len cap : Nat} {a : Option Addr} {i : Int} (h : CodesAt w C a len cap i) (hs : w.heap.size ≤ w'.heap.size) (hb : ∀ k, k ≤ C → w'.heap[k]? = w.heap[k]?) : CodesAt w' C a len cap i := by
  obtain ⟨h0, h1, h2, h3, h4, h5, h6, h7⟩ := h
  have cell : ∀ (k j : Nat), k ≤ C → w'.cell? ⟨k, j, none⟩ = w.cell? ⟨k, j, none⟩ := fun k j hk => World.cell?_of_block (a := ⟨k, j, none⟩) (hb k hk)
  refine ⟨by omega, by rw [cell C 0 (Nat.le_refl _), h1], by rw [cell C 1 (Nat.le_refl _), h2], by rw [World.frozen?_of_block (a := ⟨C, 1, none⟩) (hb C (Nat.le_refl _)), h3], h4, h5, h6, fun hl => ?_⟩
  obtain ⟨b, off, ha, hbC, hz⟩ := h7 hl
  exact ⟨b, off, ha, hbC, fun j hj => by rw [cell b (off + j) (by omega)]; exact hz j hj⟩
theorem CodesOk.below {w w' : World} {C B : Nat} (h : CodesOk w C) (hb : Below B w w') (hB : C < B) : CodesOk w' C := by
  obtain ⟨a, len, cap, i, h⟩ := h
  exact ⟨a, len, cap, i, h.keep hb.size (fun k hk => hb.block k (by omega))⟩
theorem CodesOk.drewN {w : World} {C : Nat} (h : CodesOk w C) (n : Nat) : CodesOk (w.drewN n) C := by
  obtain ⟨a, len, cap, i, h⟩ := h
  exact ⟨a, len, cap, i, h.keep (Nat.le_refl _) (fun _ _ => rfl)⟩
theorem CodesOk.lt {w : World} {C : Nat} (h : CodesOk w C) : C < w.heap.size := by
  obtain ⟨a, len, cap, i, h⟩ := h
  exact h.1
theorem CodesOk.drew {w : World} {C : Nat} (h : CodesOk w C) : CodesOk w.drew C := by
  obtain ⟨a, len, cap, i, h⟩ := h
  exact ⟨a, len, cap, i, h.keep (Nat.le_refl _) (fun _ _ => rfl)⟩
/-- the place goes on -/
theorem CodesAt.next {w : World} {C len cap : Nat} {a : Option Addr} {i : Int} (h : CodesAt w C a len cap i) (hi : i < len) : CodesOk (w.setCell ⟨C, 1, none⟩ (.int .i64 (i + 1))) C := by
  obtain ⟨h0, h1, h2, h3, h4, h5, h6, h7⟩ := h
  refine ⟨a, len, cap, i + 1, by simpa using h0, ?_, World.cell?_setCell_same w _ _ h2, by rw [World.frozen?_setCell]; exact h3, by omega, by omega, h6, fun hl => ?_⟩
  · rw [World.cell?_setCell_other w _ _ _ (by intro h; cases h)]; exact h1
  · obtain ⟨b, off, ha, hbC, hz⟩ := h7 hl
    refine ⟨b, off, ha, hbC, fun j hj => ?_⟩
    rw [World.cell?_setCell_other w _ _ _ (by intro h; injection h with h1 _ _; omega)]
    exact hz j hj
/-- what Next leaves -/
def NextPost (C : Nat) (n : Int) (w : World) (e : Ending) (w' : World) : Prop :=
  ∃ x : Int, e = .returned (.int .i64 x) ∧ 0 ≤ x ∧ (x < n ∨ x = 0) ∧ Besides C w w' ∧ CodesOk w' C
set_option maxHeartbeats 400000 in
theorem next_end (C : Nat) (a : Option Addr) (len cap : Nat) (i n : Int) (w : World) (h : CodesAt w C a len cap i) (hz : (len : Int) ≤ i ∨ n < 1) :
    Calls Try.prog 19 #[.pointer (some ⟨C, 0, none⟩), .int .i64 n] w (NextPost C n w) := by
  have HK : Hid (CodesOk w C) := ⟨a, len, cap, i, h⟩
  have h1 := h.2.1
  have h2 := h.2.2.1
  clear h
  by_cases hl : (len : Int) ≤ i
  · have d1 : decide ((len : Int) ≤ i) = true := by simpa using hl
    clear hz
    go_enter Try.func19, Try.ntmps19
    go_wp2
    go_quiet (fail)
    go_wp2
    go_ret
    exact ⟨0, rfl, Int.le_refl _, Or.inr rfl, (Besides.refl _ _).drewN _, HK.out.drewN _⟩
  · have d1 : decide ((len : Int) ≤ i) = false := by simpa using hl
    have hn : n < 1 := by omega
    have d2 : decide (n < 1) = true := by simpa using hn
    clear hz
    go_enter Try.func19, Try.ntmps19
    go_wp2
    go_quiet (fail)
    go_wp2
    go_ret
    exact ⟨0, rfl, Int.le_refl _, Or.inr rfl, (Besides.refl _ _).drewN _, HK.out.drewN _⟩
set_option maxHeartbeats 400000 in
theorem next_small (C : Nat) (n : Int) (w : World) (h : CodesOk w C) (hn : n ≤ 256) :
    Calls Try.prog 19 #[.pointer (some ⟨C, 0, none⟩), .int .i64 n] w (NextPost C n w) := by
  obtain ⟨a, len, cap, i, h⟩ := h
  by_cases hz : (len : Int) ≤ i ∨ n < 1
  · exact next_end C a len cap i n w h hz
  have hi : i < len := by omega
  have h1n : 1 ≤ n := by omega
  have HK : Hid (∀ q : Nat, CodesOk ((w.drewN q).setCell ⟨C, 1, none⟩ (.int .i64 (i + 1))) C) := fun q => (h.keep (w' := w.drewN q) (Nat.le_refl _) (fun _ _ => rfl)).next hi
  obtain ⟨h0, h1, h2, h3, h4, h5, h6, h7⟩ := h
  obtain ⟨b, off, rfl, hbC, hcell⟩ := h7 (by omega)
  obtain ⟨k, rfl⟩ := Int.eq_ofNat_of_zero_le h4
  obtain ⟨z, hzc, z0, z1⟩ := hcell k (by omega)
  clear hcell h7 hz
  have d1 : decide (len ≤ k) = false := by simp; omega
  have d2 : decide (n < 1) = false := by simp; omega
  have hk : (k : Int) < (len : Int) := by omega
  have hk0 : (0 : Int) ≤ (k : Int) := by omega
  have hg : ¬ 256 < n := by omega
  have dz := Int.emod_nonneg z (show n ≠ 0 by omega)
  have dz2 := Int.emod_lt_of_pos z (show 0 < n by omega)
  go_enter Try.func19, Try.ntmps19
  go_wp2
  go_quiet (fail)
  go_wp2
  go_quiet (fail)
  go_wp2
  go_ret
  exact ⟨z % n, rfl, dz, Or.inl dz2, ((Besides.refl _ _).drewN _).set _ _ (by decide), HK.out _⟩
set_option maxHeartbeats 400000 in
theorem next_any (C : Nat) (n : Int) (w : World) (h : CodesOk w C) (hmax : n ≤ 4611686018427387904) :
    Calls Try.prog 19 #[.pointer (some ⟨C, 0, none⟩), .int .i64 n] w (NextPost C n w) := by
  by_cases hn : n ≤ 256
  · exact next_small C n w h hn
  obtain ⟨a, len, cap, i, h⟩ := h
  by_cases hz : (len : Int) ≤ i
  · exact next_end C a len cap i n w h (Or.inl hz)
  have hi : i < len := by omega
  have HK : Hid (∀ q : Nat, CodesOk ((w.drewN q).setCell ⟨C, 1, none⟩ (.int .i64 (i + 1))) C) := fun q => (h.keep (w' := w.drewN q) (Nat.le_refl _) (fun _ _ => rfl)).next hi
  obtain ⟨h0, h1, h2, h3, h4, h5, h6, h7⟩ := h
  obtain ⟨b, off, rfl, hbC, hcell⟩ := h7 (by omega)
  obtain ⟨k, rfl⟩ := Int.eq_ofNat_of_zero_le h4
  obtain ⟨z, hzc, z0, z1⟩ := hcell k (by omega)
  clear hcell h7 hz
  have d1 : decide (len ≤ k) = false := by simp; omega
  have d2 : decide (n < 1) = false := by simp; omega
  have hk : (k : Int) < (len : Int) := by omega
  have hk0 : (0 : Int) ≤ (k : Int) := by omega
  have hg : 256 < n := by omega
  clear hn
  go_enter Try.func19, Try.ntmps19
  go_wp2_with fail
  go_quiet (fail)
  go_wp2_with fail
  go_quiet (fail)
  go_wp2_with fail
  refine (next_small C 256 _ (HK.out _) (by omega)).mono ?_
  rintro e w2 ⟨x, rfl, x0, x1, hb, hc⟩
  have x2 : x ≤ 255 := by omega
  clear x1
  have hn0 : 0 < n := by omega
  have dz := Int.emod_nonneg (256 * z + x) (show n ≠ 0 by omega)
  have dz2 := Int.emod_lt_of_pos (256 * z + x) (show 0 < n by omega)
  go_wp2_with fail
  go_ret
  exact ⟨_, rfl, dz, Or.inl dz2, (((Besides.refl _ _).drewN _).set _ _ (by decide)).trans hb, hc⟩
end Go.Proofs.Ytgljhfofikjbdaa
/- numbers as bytes, texts, and small facts on conversions: no walk -/
namespace Go.Proofs.Ytgljhfofikjbdaa
open Go.ChangeShapes Go.WideShapes Go.ChangeAt Go.RowKit


/-- byte k of a number -/
def leB (n : Int) (k : Nat) : UInt8 := UInt8.ofNat (n / 2 ^ (8 * k) % 256).toNat
theorem leB_toNat (n : Int) (k : Nat) : ((leB n k).toNat : Int) = n / 2 ^ (8 * k) % 256 := by
  unfold leB
  have h0 := Int.emod_nonneg (n / 2 ^ (8 * k)) (show (256 : Int) ≠ 0 by decide)
  have h1 := Int.emod_lt_of_pos (n / 2 ^ (8 * k)) (show (0 : Int) < 256 by decide)
  generalize n / 2 ^ (8 * k) % 256 = x at *
  rw [UInt8.toNat_ofNat']
  omega
/-- the lowest k bytes of a number -/
def leL (n : Int) (k : Nat) : List UInt8 := (List.range k).map (leB n)
def leS (n : Int) (k : Nat) : ByteArray := ⟨(leL n k).toArray⟩
theorem leL_length (n : Int) (k : Nat) : (leL n k).length = k := by simp [leL]
theorem leS_size (n : Int) (k : Nat) : (leS n k).size = k := by
  show (leL n k).toArray.size = k
  simp [leL_length]
theorem leL_succ (n : Int) (k : Nat) : leL n (k + 1) = leL n k ++ [leB n k] := by
  unfold leL; rw [List.range_succ, List.map_append]; rfl
theorem leL_getD (n : Int) (k j : Nat) (h : j < k) : (leL n k)[j]'(by rw [leL_length]; exact h) = leB n j := by
  simp [leL]
theorem str_eq {a b : ByteArray} (h : a.data.toList = b.data.toList) : a = b := by
  apply ByteArray.ext; apply Array.toList_inj.1; exact h
theorem str_app (a b : ByteArray) : (a ++ b).data.toList = a.data.toList ++ b.data.toList := by
  rw [ByteArray.data_append, Array.toList_append]
theorem ret_str {a b : ByteArray} (h : a = b) : Ending.returned (.string a) = .returned (.string b) := by rw [h]
theorem byte_of_u64 (n : Int) (k : Nat) (hk : k < 8) : IntKind.u64.wrap n / 2 ^ (8 * k) % 256 = ((leB n k).toNat : Int) := by
  rw [IntKind.wrap_u64, leB_toNat]
  match k, hk with
  | 0, _ => simp only [Nat.mul_zero, Int.pow_zero]; omega
  | 1, _ => simp only [show (2 : Int) ^ (8 * 1) = 256 from by decide]; omega
  | 2, _ => simp only [show (2 : Int) ^ (8 * 2) = 65536 from by decide]; omega
  | 3, _ => simp only [show (2 : Int) ^ (8 * 3) = 16777216 from by decide]; omega
  | 4, _ => simp only [show (2 : Int) ^ (8 * 4) = 4294967296 from by decide]; omega
  | 5, _ => simp only [show (2 : Int) ^ (8 * 5) = 1099511627776 from by decide]; omega
  | 6, _ => simp only [show (2 : Int) ^ (8 * 6) = 281474976710656 from by decide]; omega
  | 7, _ => simp only [show (2 : Int) ^ (8 * 7) = 72057594037927936 from by decide]; omega
/-- a text of one byte -/
theorem conv_one (w : World) (b : UInt8) : Sem.run Try.prog (convert 22 9 (.slice (some ⟨w.heap.size, 0, none⟩) 1 1)) (w.alloc (.cells #[.int .u8 (b.toNat : Int)] 5)) = .ok (.string ⟨#[b]⟩) (w.alloc (.cells #[.int .u8 (b.toNat : Int)] 5)) :=
  run_convert_bytes_back (P := Try.prog) (w.alloc (.cells #[.int .u8 (b.toNat : Int)] 5)) 22 9 5 ⟨w.heap.size, 0, none⟩ 1 [b] Try.underlying22 Try.underlying5 Try.underlying9 (fun j hj => by
    have : j = 0 := by simpa using hj
    subst this
    show (w.alloc _).cell? ⟨w.heap.size, 0, none⟩ = _
    rw [World.cell?_alloc_new]; rfl)
/-- the number in bytes, without a sign -/
def leNum (s : ByteArray) (at_ : Nat) : Nat → Nat
  | 0 => 0
  | k + 1 => leNum s at_ k + (s.data.toList.getD (at_ + k) 0).toNat * 256 ^ k
theorem leNum_lt (s : ByteArray) (at_ k : Nat) : leNum s at_ k < 256 ^ k := by
  induction k with
  | zero => simp [leNum]
  | succ k ih =>
    have hb : (s.data.toList.getD (at_ + k) 0).toNat ≤ 255 := by have := (s.data.toList.getD (at_ + k) 0).toNat_lt; omega
    have hm := Nat.mul_le_mul_right (256 ^ k) hb
    rw [leNum, Nat.pow_succ]
    omega
theorem getD_at (s : ByteArray) (i : Nat) (h : i < s.size) : s.data.toList.getD i 0 = s[i] := by
  have h' : i < s.data.toList.length := by simpa using h
  rw [List.getD_eq_getElem?_getD, List.getElem?_eq_getElem h', Option.getD_some]; rfl
theorem ofInt_wrap (k : IntKind) (x : Int) : BitVec.ofInt k.bits (k.wrap x) = BitVec.ofInt k.bits x := by
  apply BitVec.eq_of_toInt_eq
  rw [BitVec.toInt_ofInt, BitVec.toInt_ofInt]
  have : (k.wrap x) % (2 ^ k.bits : Nat) = x % (2 ^ k.bits : Nat) := by
    unfold IntKind.wrap
    simp only []
    split
    · rw [show ((2 : Int) ^ k.bits) = ((2 ^ k.bits : Nat) : Int) from by simp, Int.sub_emod_right, Int.emod_emod]
    · rw [show ((2 : Int) ^ k.bits) = ((2 ^ k.bits : Nat) : Int) from by simp, Int.emod_emod]
  rw [← Int.emod_bmod, this, Int.emod_bmod]
theorem w64 (n : Int) : IntKind.i64.wrap n = wrap64 n := by rw [IntKind.wrap_i64]; unfold wrap64; rfl
/-- a byte more, by 'or': whatever the kind of 64 bits -/
theorem or_nat (X b k : Nat) (hX : X < 256 ^ k) (hb : b < 256) (hk : k < 8) :
    (BitVec.ofInt 64 (X : Int) ||| BitVec.ofInt 64 ((b : Int) * 2 ^ (8 * k))).toNat = X + b * 256 ^ k := by
  have e1 : (2 : Int) ^ (8 * k) = ((256 ^ k : Nat) : Int) := by
    rw [show (256 : Nat) = 2 ^ 8 from rfl, ← Nat.pow_mul]; simp
  have e2 : (b : Int) * 2 ^ (8 * k) = ((b * 256 ^ k : Nat) : Int) := by rw [e1]; simp
  have hle : 256 ^ k * 256 ≤ 2 ^ 64 := by
    have : 256 ^ (k + 1) ≤ 256 ^ 8 := Nat.pow_le_pow_right (by decide) (by omega)
    rw [Nat.pow_succ] at this
    exact this
  have hbk : b * 256 ^ k ≤ 255 * 256 ^ k := Nat.mul_le_mul_right _ (by omega)
  rw [e2, BitVec.ofInt_natCast, BitVec.ofInt_natCast, BitVec.toNat_or, BitVec.toNat_ofNat, BitVec.toNat_ofNat, Nat.mod_eq_of_lt (by omega), Nat.mod_eq_of_lt (by omega)]
  have e3 : 256 ^ k = 2 ^ (8 * k) := by rw [show (256 : Nat) = 2 ^ 8 from rfl, ← Nat.pow_mul]
  rw [e3] at hX ⊢
  rw [Nat.or_comm, Nat.mul_comm b, ← Nat.two_pow_add_eq_or_of_lt hX, Nat.add_comm]
theorem or_i64 (X b k : Nat) (hX : X < 256 ^ k) (hb : b < 256) (hk : k < 8) :
    bits .or .i64 (wrap64 (X : Int)) (wrap64 (wrap64 (b : Int) * 2 ^ (8 * k))) = wrap64 ((X + b * 256 ^ k : Nat) : Int) := by
  have w1 : wrap64 (b : Int) = (b : Int) := IntWalk.wrap64_in _ ⟨by omega, by omega⟩
  rw [w1]
  show IntKind.i64.wrap ((BitVec.ofInt 64 (wrap64 (X : Int)) ||| BitVec.ofInt 64 (wrap64 ((b : Int) * 2 ^ (8 * k)))).toNat : Int) = _
  have a1 : BitVec.ofInt 64 (wrap64 (X : Int)) = BitVec.ofInt 64 (X : Int) := by rw [← w64]; exact ofInt_wrap .i64 _
  have a2 : BitVec.ofInt 64 (wrap64 ((b : Int) * 2 ^ (8 * k))) = BitVec.ofInt 64 ((b : Int) * 2 ^ (8 * k)) := by rw [← w64]; exact ofInt_wrap .i64 _
  rw [a1, a2, or_nat X b k hX hb hk, w64]
theorem wrap64_0 : wrap64 0 = 0 := IntWalk.wrap64_in 0 (by omega)
theorem or_u64 (X b k : Nat) (hX : X < 256 ^ k) (hb : b < 256) (hk : k < 8) :
    bits .or .u64 (X : Int) (IntKind.u64.wrap (IntKind.u64.wrap (b : Int) * 2 ^ (8 * k))) = ((X + b * 256 ^ k : Nat) : Int) := by
  have w1 : IntKind.u64.wrap (b : Int) = (b : Int) := by rw [IntKind.wrap_u64]; omega
  rw [w1]
  show IntKind.u64.wrap ((BitVec.ofInt 64 (X : Int) ||| BitVec.ofInt 64 (IntKind.u64.wrap ((b : Int) * 2 ^ (8 * k)))).toNat : Int) = _
  have a2 : BitVec.ofInt 64 (IntKind.u64.wrap ((b : Int) * 2 ^ (8 * k))) = BitVec.ofInt 64 ((b : Int) * 2 ^ (8 * k)) := ofInt_wrap .u64 _
  rw [a2]
  have hlt := (BitVec.ofInt 64 (X : Int) ||| BitVec.ofInt 64 ((b : Int) * 2 ^ (8 * k))).isLt
  rw [or_nat X b k hX hb hk] at hlt ⊢
  rw [IntKind.wrap_u64]
  omega
theorem u64_in (x : Nat) (h : x < 18446744073709551616) : IntKind.u64.wrap (x : Int) = (x : Int) := by rw [IntKind.wrap_u64]; omega
/-- what Get answers, for every text and all numbers -/
def getR (s : ByteArray) (a z : Int) : Int × Int :=
  if (z < 1 ∨ 8 < z) ∨ a < 0 then (0, 1) else if (s.size : Int) < a + z then (0, 5) else (wrap64 (leNum s a.toNat z.toNat), 0)
/-- what Put answers -/
def putR (s : ByteArray) (n z : Int) : ByteArray := if z < 1 ∨ 8 < z then s else s ++ leS n z.toNat
/-- a text of one byte, at any world -/
theorem conv_at (W : World) (A : Nat) (y : Int) (y0 : 0 ≤ y) (y1 : y ≤ 255) (h : W.cell? ⟨A, 0, none⟩ = some (.int .u8 y)) : Sem.run Try.prog (convert 22 9 (.slice (some ⟨A, 0, none⟩) 1 1)) W = .ok (.string ⟨#[UInt8.ofNat y.toNat]⟩) W := by
  refine run_convert_bytes_back (P := Try.prog) W 22 9 5 ⟨A, 0, none⟩ 1 [UInt8.ofNat y.toNat] Try.underlying22 Try.underlying5 Try.underlying9 (fun j hj => ?_)
  have : j = 0 := by simpa using hj
  subst this
  show W.cell? ⟨A, 0, none⟩ = _
  rw [h]
  show some (Value.int .u8 y) = some (Value.int .u8 (((UInt8.ofNat y.toNat).toNat : Nat) : Int))
  rw [UInt8.toNat_ofNat', show ((y.toNat % 2 ^ 8 : Nat) : Int) = y from by omega]
theorem xor_in (a b : Int) : 0 ≤ bits .xor .u8 a b ∧ bits .xor .u8 a b ≤ 255 := by
  show 0 ≤ IntKind.u8.wrap ((BitVec.ofInt 8 a ^^^ BitVec.ofInt 8 b).toNat : Int) ∧ IntKind.u8.wrap ((BitVec.ofInt 8 a ^^^ BitVec.ofInt 8 b).toNat : Int) ≤ 255
  rw [IntKind.wrap_u8']
  omega
theorem conv_ex (w : World) (a b : Int) : ∃ (y : Int) (u : UInt8), bits .xor .u8 a b = y ∧ Sem.run Try.prog (convert 22 9 (.slice (some ⟨w.heap.size, 0, none⟩) 1 1)) (w.alloc (.cells #[.int .u8 y] 5)) = .ok (.string ⟨#[u]⟩) (w.alloc (.cells #[.int .u8 y] 5)) :=
  ⟨_, _, rfl, conv_at _ _ _ (xor_in a b).1 (xor_in a b).2 (by rw [World.cell?_alloc_new]; rfl)⟩
theorem size_one (b : UInt8) : (⟨#[b]⟩ : ByteArray).size = 1 := rfl
theorem byte_of_wf {n : Int} (h : (Lit.int .u8 n).wf = true) : ∃ b : UInt8, n = (b.toNat : Int) := by
  have := bounds_u8 h
  refine ⟨UInt8.ofNat n.toNat, ?_⟩
  rw [UInt8.toNat_ofNat']
  omega

theorem leNum_of (s : ByteArray) (a : Nat) (n : Int) (k : Nat) (h : ∀ i, i < k → s.data.toList.getD (a + i) 0 = leB n i) : (leNum s a k : Int) = n % 2 ^ (8 * k) := by
  induction k with
  | zero => simp [leNum, Int.emod_one]
  | succ k ih =>
    have ih' := ih (fun i hi => h i (by omega))
    rw [leNum, h k (by omega)]
    have hb := leB_toNat n k
    have e1 : (2 : Int) ^ (8 * (k + 1)) = 2 ^ (8 * k) * 256 := by rw [show 8 * (k + 1) = 8 * k + 8 from by omega, Int.pow_add]; rfl
    have e2 : ((256 ^ k : Nat) : Int) = 2 ^ (8 * k) := by rw [show (256 : Nat) = 2 ^ 8 from rfl, ← Nat.pow_mul]; simp
    have hp : (0 : Int) < 2 ^ (8 * k) := Int.pow_pos (by decide)
    rw [Int.natCast_add, Int.natCast_mul, e2, ih', hb, e1]
    generalize (2 : Int) ^ (8 * k) = q at *
    have c0 := Int.emod_add_mul_ediv n q
    have c1 := Int.emod_add_mul_ediv (n / q) 256
    have b0 := Int.emod_nonneg n (show q ≠ 0 by omega)
    have b1 := Int.emod_lt_of_pos n hp
    have b2 := Int.emod_nonneg (n / q) (show (256 : Int) ≠ 0 by decide)
    have b3 := Int.emod_lt_of_pos (n / q) (show (0 : Int) < 256 by decide)
    have hn : n = (n % q + q * (n / q % 256)) + q * 256 * (n / q / 256) := by
      rw [Int.mul_assoc, Int.add_assoc, ← Int.mul_add, c1, c0]
    have hr0 : 0 ≤ n % q + q * (n / q % 256) := Int.add_nonneg b0 (Int.mul_nonneg (by omega) b2)
    have hr1 : n % q + q * (n / q % 256) < q * 256 := by
      have : q * (n / q % 256) ≤ q * 255 := Int.mul_le_mul_of_nonneg_left (by omega) (by omega)
      omega
    conv => rhs; rw [hn]
    rw [Int.add_mul_emod_self_left, Int.emod_eq_of_lt hr0 hr1, Int.mul_comm]

theorem leNum_congr (s t : ByteArray) (a : Nat) (k : Nat) (h : ∀ i, i < k → s.data.toList.getD (a + i) 0 = t.data.toList.getD (a + i) 0) : leNum s a k = leNum t a k := by
  induction k with
  | zero => rfl
  | succ k ih => rw [leNum, leNum, ih (fun i hi => h i (by omega)), h k (by omega)]
theorem leNum_inj (s t : ByteArray) (a : Nat) (k : Nat) (h : leNum s a k = leNum t a k) : ∀ i, i < k → s.data.toList.getD (a + i) 0 = t.data.toList.getD (a + i) 0 := by
  induction k with
  | zero => intro i hi; omega
  | succ k ih =>
    rw [leNum, leNum] at h
    have h1 := leNum_lt s a k
    have h2 := leNum_lt t a k
    have hp : 0 < 256 ^ k := Nat.pow_pos (by decide)
    have e1 := congrArg (fun x => x / 256 ^ k) h
    have e2 := congrArg (fun x => x % 256 ^ k) h
    simp only [Nat.add_mul_div_right _ _ hp, Nat.div_eq_of_lt h1, Nat.div_eq_of_lt h2, Nat.zero_add] at e1
    simp only [Nat.add_mul_mod_self_right, Nat.mod_eq_of_lt h1, Nat.mod_eq_of_lt h2] at e2
    intro i hi
    by_cases hk : i = k
    · subst hk; exact UInt8.toNat_inj.1 e1
    · exact ih e2 i (by omega)
theorem size_list (s : ByteArray) : s.data.toList.length = s.size := by simp
theorem extract_list (s : ByteArray) (a b : Nat) : (s.extract a b).data.toList = (s.data.toList.take b).drop a := by
  rw [ByteArray.data_extract, Array.toList_extract, List.extract_eq_take_drop, List.take_drop]
  by_cases h : a ≤ b
  · rw [Nat.add_sub_cancel' h]
  · rw [show a + (b - a) = a from by omega]
    have h1 : (List.take a s.data.toList).drop a = [] := List.drop_eq_nil_of_le (by simp; omega)
    have h2 : (List.take b s.data.toList).drop a = [] := List.drop_eq_nil_of_le (by simp; omega)
    rw [h1, h2]
theorem leL_get (n : Int) (k i : Nat) (h : i < k) : (leL n k).getD i 0 = leB n i := by
  rw [List.getD_eq_getElem?_getD, List.getElem?_eq_getElem (by rw [leL_length]; exact h), Option.getD_some, leL_getD n k i h]
theorem getD_left (a b : List UInt8) (i : Nat) (h : i < a.length) : (a ++ b).getD i 0 = a.getD i 0 := by
  rw [List.getD_eq_getElem?_getD, List.getElem?_append_left h, ← List.getD_eq_getElem?_getD]
theorem getD_right (a b : List UInt8) (i : Nat) : (a ++ b).getD (a.length + i) 0 = b.getD i 0 := by
  rw [List.getD_eq_getElem?_getD, List.getElem?_append_right (by omega), Nat.add_sub_cancel_left, ← List.getD_eq_getElem?_getD]

/-- a slice of integers that came in: nil, or a row of cells with the numbers zs -/
def IsRow (k : IntKind) (w : World) (a : Option Addr) (len cap : Nat) (zs : List Int) : Prop :=
  (a = none ∧ len = 0 ∧ cap = 0 ∧ zs = []) ∨
  ∃ x, a = some x ∧ len ≤ cap ∧ cap ≤ maxLen ∧ zs.length = cap ∧ (∀ i, i < zs.length → w.cell? (x.add i) = some (.int k (zs.getD i 0))) ∧ ∀ n ∈ zs, (Lit.int k n).wf = true
end Go.Proofs.Ytgljhfofikjbdaa
/- the choices of the drawing package: New and Spoilt -/
namespace Go.Proofs.Ytgljhfofikjbdaa
open Go.RowKit
set_option maxRecDepth 20000
/-- the codes of a slice that came in, at a block behind it -/
theorem codes_of_row {w : World} {a : Option Addr} {len cap : Nat} {zs : List Int} (h : IsRow .u8 w a len cap zs) (l c : Nat) (hl : l ≤ len) (hl2 : l ≤ 4611686018427387904) :
    CodesOk (w.alloc (.cells #[.slice a l c, .int .i64 0] 49)) w.heap.size := by
  refine ⟨a, l, c, 0, by simp, by rw [World.cell?_alloc_new]; rfl, by rw [World.cell?_alloc_new]; rfl, by rw [World.frozen?_alloc_new], by omega, by omega, hl2, fun h0 => ?_⟩
  rcases h with ⟨_, h, _, _⟩ | ⟨x, rfl, hlc, _, hz, hcell, hwf⟩
  · omega
  · obtain ⟨b, off, spot⟩ := x
    have hc := hcell 0 (by omega)
    have hspot : spot = none := by simpa [Addr.add] using World.cell?_spot hc
    subst hspot
    have hb0 : w.cell? ⟨b, off, none⟩ = some (.int .u8 (zs.getD 0 0)) := by simpa [Addr.add] using hc
    have hb : b < w.heap.size := World.block_lt_of_cell? w _ hb0
    refine ⟨b, off, rfl, hb, fun j hj => ⟨zs.getD j 0, ?_, ?_⟩⟩
    · have e : (⟨b, off, none⟩ : Addr).add j = ⟨b, off + j, none⟩ := by
        simp only [Addr.add]; split
        · next h => rw [h]; rfl
        · rfl
      have := hcell j (by omega)
      rw [e] at this
      rw [World.cell?_alloc_lt _ _ _ hb]
      exact this
    · have hm : zs.getD j 0 ∈ zs := by
        rw [List.getD_eq_getElem?_getD, List.getElem?_eq_getElem (by omega), Option.getD_some]; exact List.getElem_mem _
      obtain ⟨u, hu⟩ := byte_of_wf (hwf _ hm)
      have := u.toNat_lt
      rw [hu]
      omega
set_option maxHeartbeats 400000 in
theorem new_any (a : Option Addr) (len cap : Nat) (zs : List Int) (w : World) (h : IsRow .u8 w a len cap zs) :
    Calls Try.prog 9 #[.slice a len cap, .int .i64 60] w fun e w' => e = .returned (.pointer (some ⟨w.heap.size, 0, none⟩)) ∧ Below w.heap.size w w' ∧ CodesOk w' w.heap.size := by
  by_cases hl : 60 < len
  · have HK := Lib.hid (codes_of_row h 60 cap (by omega) (by omega))
    rcases h with ⟨_, h, _, _⟩ | ⟨x, rfl, hlc, hcm, hz, _, _⟩
    · omega
    · have hcap : (60 : Int) ≤ (cap : Int) := by omega
      clear hz
      go_enter Try.func9, Try.ntmps9
      go_wp2
      go_ret
      exact ⟨rfl, (Below.refl _ _).alloc (Nat.le_refl _) _, HK.out⟩
  · have HK := Lib.hid (codes_of_row h len cap (Nat.le_refl _) (by omega))
    clear h
    go_enter Try.func9, Try.ntmps9
    go_wp2
    go_ret
    exact ⟨rfl, (Below.refl _ _).alloc (Nat.le_refl _) _, HK.out⟩
end Go.Proofs.Ytgljhfofikjbdaa
/- small things about memory that all texts use -/
namespace Go.Proofs.Ytgljhfofikjbdaa
open Go.RowKit
set_option maxRecDepth 20000

theorem all_false {α : Type} {l : List α} {f : α → Bool} {c : α} (h : c ∈ l) (hf : f c = false) : l.all f = false := by
  rw [List.all_eq_false]; exact ⟨c, h, by rw [hf]; decide⟩
theorem ret_bool {a b : Bool} (h : a = b) : Ending.returned (.bool a) = .returned (.bool b) := by rw [h]
theorem heap_alloc_last (w : World) (o : Obj) : (w.alloc o).heap[w.heap.size]? = some o := by
  show (w.heap.push o)[w.heap.size]? = some o
  simp
theorem Besides.then_below {C : Nat} {a w w' : World} (h : Besides C a w) (hb : Below a.heap.size w w') : Besides C a w' :=
  ⟨hb.os.trans h.os, hb.tape.trans h.tape, hb.output.trans h.output, Nat.le_trans h.size hb.size, fun k hk hC => (hb.block k hk).trans (h.block k hk hC), fun hC => (World.cell?_of_block (a := ⟨C, 0, none⟩) (hb.block C hC)).trans (h.head hC)⟩
theorem Besides.setOwn {C B : Nat} {a w : World} (h : Besides C a w) (hB : a.heap.size ≤ B) (j : Nat) (u : Value) : Besides C a (w.setCell ⟨B, j, none⟩ u) :=
  h.then_below ((Below.refl _ _).setCell (p := ⟨B, j, none⟩) hB u)
theorem CodesOk.setOwn {C B : Nat} {w : World} (h : CodesOk w C) (hB : C < B) (j : Nat) (u : Value) : CodesOk (w.setCell ⟨B, j, none⟩ u) C :=
  h.below ((Below.refl B w).setCell (p := ⟨B, j, none⟩) (Nat.le_refl _) u) hB
theorem info_byte : (Try.prog.info? 5).map (fun i => (i.zero, i.size, i.bytes)) = some (some (.int .u8 0), 1, 1) := by kernel_rfl
theorem info_of {t : TypeId} {z : Value} {s b : Nat} (h : (Try.prog.info? t).map (fun i => (i.zero, i.size, i.bytes)) = some (some z, s, b)) : ∃ i, Try.prog.info? t = some i ∧ i.zero = some z ∧ i.size = s ∧ i.bytes = b := by
  cases e : Try.prog.info? t with
  | none => rw [e] at h; cases h
  | some i =>
    rw [e] at h
    simp only [Option.map_some, Option.some.injEq, Prod.mk.injEq] at h
    exact ⟨i, rfl, h.1, h.2.1, h.2.2⟩
theorem info_byte' : ∃ i, Try.prog.info? 5 = some i ∧ i.zero = some (.int .u8 0) ∧ i.size = 1 ∧ i.bytes = 1 := info_of info_byte
end Go.Proofs.Ytgljhfofikjbdaa
/- what all laws begin with: the choices -/
namespace Go.Proofs.Ytgljhfofikjbdaa
open Go.RowKit
set_option maxRecDepth 20000

/-- the codes' own slice -/
def CodesRow (W : World) (B : Nat) (a : Option Addr) (len : Nat) : Prop := ∃ l c, W.cell? ⟨B, 0, none⟩ = some (.slice a l c) ∧ (0 < l → 0 < len)
set_option maxHeartbeats 400000 in
theorem new_at (m : Nat) (hm : m ≤ 1000) (a : Option Addr) (len cap : Nat) (zs : List Int) (w : World) (h : IsRow .u8 w a len cap zs) :
    Calls Try.prog 9 #[.slice a len cap, .int .i64 m] w fun e w' => e = .returned (.pointer (some ⟨w.heap.size, 0, none⟩)) ∧ Below w.heap.size w w' ∧ CodesOk w' w.heap.size ∧ CodesRow w' w.heap.size a len := by
  by_cases hl : m < len
  · have HK := Lib.hid (codes_of_row h m cap (by omega) (by omega))
    rcases h with ⟨_, h, _, _⟩ | ⟨x, rfl, hlc, hcm, hz, _, _⟩
    · omega
    · have hcap : (m : Int) ≤ (cap : Int) := by omega
      have hi : (m : Int) < (len : Int) := by omega
      have hm0 : (0 : Int) ≤ (m : Int) := by omega
      have HL : Hid (m < len) := hl
      clear hz
      go_enter Try.func9, Try.ntmps9
      go_wp2
      go_ret
      exact ⟨rfl, (Below.refl _ _).alloc (Nat.le_refl _) _, HK.out, ⟨_, _, by rw [World.cell?_alloc_new]; rfl, fun _ => by have := HL.out; omega⟩⟩
  · have hle : len ≤ 4611686018427387904 := by omega
    have HK := Lib.hid (codes_of_row h len cap (Nat.le_refl _) hle)
    have hi : ¬ ((m : Int) < (len : Int)) := by omega
    clear h
    go_enter Try.func9, Try.ntmps9
    go_wp2
    go_ret
    refine ⟨rfl, (Below.refl _ _).alloc (Nat.le_refl _) _, HK.out, ⟨len, cap, ?_, fun h0 => h0⟩⟩
    rw [World.cell?_alloc_new]
    rfl
theorem new_to (m : Nat) (hm : m ≤ 1000) (a : Option Addr) (len cap : Nat) (zs : List Int) (w : World) (h : IsRow .u8 w a len cap zs) :
    Calls Try.prog 9 #[.slice a len cap, .int .i64 m] w fun e w' => e = .returned (.pointer (some ⟨w.heap.size, 0, none⟩)) ∧ Below w.heap.size w w' ∧ CodesOk w' w.heap.size :=
  (new_at m hm a len cap zs w h).mono fun _ _ h => ⟨h.1, h.2.1, h.2.2.1⟩
theorem row_below {w w1 : World} {x : Option Addr} {len cap : Nat} {zs : List Int} (hr : IsRow .u8 w x len cap zs) (hb : Below w.heap.size w w1) : IsRow .u8 w1 x len cap zs := by
  rcases hr with h | ⟨b, hb1, hb2, hb3, hb4, hb5, hb6⟩
  · exact .inl h
  · refine .inr ⟨b, hb1, hb2, hb3, hb4, fun j hj => ?_, hb6⟩
    have hc := hb5 j hj
    rw [hb.cell (World.block_lt_of_cell? w _ hc)]
    exact hc
end Go.Proofs.Ytgljhfofikjbdaa
/- objects in memory, and what a walk keeps of them -/
namespace Go.Proofs.Ytgljhfofikjbdaa
open Go.RowKit
set_option maxRecDepth 20000

/-- an object: a block of cells -/
structure Ob where
  b : Nat
  t : TypeId
  cs : List Value
def Ob.In (o : Ob) (W : World) : Prop := W.heap[o.b]? = some (.cells o.cs.toArray o.t (0, 0))
theorem Ob.In.lt {o : Ob} {W : World} (h : o.In W) : o.b < W.heap.size := (Array.getElem?_eq_some_iff.1 h).1
theorem Ob.In.below {o : Ob} {W W' : World} {B : Nat} (h : o.In W) (hb : Below B W W') (hB : o.b < B) : o.In W' := (hb.block _ hB).trans h
theorem Ob.In.calls {o : Ob} {W W' : World} (h : o.In W) (hb : Below W.heap.size W W') : o.In W' := h.below hb h.lt
theorem Ob.In.besides {o : Ob} {W W' : World} {C : Nat} (h : o.In W) (hb : Besides C W W') (hC : o.b ≠ C) : o.In W' := (hb.block _ h.lt hC).trans h
theorem Ob.In.cell {o : Ob} {W : World} (h : o.In W) (k : Nat) : W.cell? ⟨o.b, k, none⟩ = o.cs[k]? := by
  rw [cell_of_row W o.b k _ _ _ h, List.getElem?_toArray]
theorem Ob.In.at {o : Ob} {W : World} (h : o.In W) (k : Nat) {v : Value} (hv : o.cs[k]? = some v) : W.cell? ⟨o.b, k, none⟩ = some v := (h.cell k).trans hv
theorem Ob.In.frozen {o : Ob} {W : World} (h : o.In W) (k : Nat) : W.frozen? ⟨o.b, k, none⟩ = false := frozen_of_row _ _ _ _ _ h
theorem Ob.In.range {o : Ob} {W : World} (h : o.In W) (k : Nat) (vs : List Value) (hv : ∀ j v, vs[j]? = some v → o.cs[k + j]? = some v) : W.rangeAt o.b k vs := fun j v e => by
  rw [h.cell, hv j v e]
theorem Ob.In.whole {o : Ob} {W : World} (h : o.In W) : W.rangeAt o.b 0 o.cs := h.range 0 _ (fun j v e => by rw [Nat.zero_add]; exact e)
theorem Ob.In.there {o : Ob} {W : World} (h : o.In W) (k n : Nat) (hn : k + n ≤ o.cs.length) : W.there o.b k n := fun j hj => by
  rw [h.cell, h.frozen, List.getElem?_eq_getElem (by omega)]
  exact ⟨rfl, rfl⟩
theorem Ob.In.set {o : Ob} {W : World} (h : o.In W) (k : Nat) (v : Value) : Ob.In ⟨o.b, o.t, o.cs.set k v⟩ (W.setCell ⟨o.b, k, none⟩ v) := by
  have := heap_setCell_same W o.b k _ _ v h
  rw [List.setIfInBounds_toArray] at this
  exact this
theorem Ob.In.other {o : Ob} {W : World} (h : o.In W) (b k : Nat) (v : Value) (hb : o.b ≠ b) : o.In (W.setCell ⟨b, k, none⟩ v) := (Below.heap_setCell _ _ _ _ hb).trans h
theorem Ob.In.drew {o : Ob} {W : World} (h : o.In W) : o.In W.drew := h

/-- what was there is as it was, and these objects lie in new memory -/
structure Fr (w : World) (L : List Ob) (W : World) : Prop where
  old : Below w.heap.size w W
  obs : ∀ o ∈ L, o.In W
  new : ∀ o ∈ L, w.heap.size ≤ o.b
  nd : L.Pairwise fun o o' => o.b ≠ o'.b
theorem Fr.start (w : World) : Fr w [] w := ⟨Below.refl _ _, by simp, by simp, .nil⟩
theorem Fr.at {w W : World} {L : List Ob} (h : Fr w L W) (i : Nat) {o : Ob} (e : L[i]? = some o) : o.In W := h.obs _ (List.mem_of_getElem? e)
theorem Fr.get {w W : World} {L : List Ob} (h : Fr w L W) (i : Nat) {b : Nat} {t : TypeId} {cs : List Value} (e : L[i]? = some ⟨b, t, cs⟩) : W.heap[b]? = some (.cells cs.toArray t (0, 0)) := h.at i e
theorem Fr.drew {w W : World} {L : List Ob} (h : Fr w L W) : Fr w L W.drew := ⟨h.old.drew, h.obs, h.new, h.nd⟩
theorem Fr.drewN {w W : World} {L : List Ob} (h : Fr w L W) (q : Nat) : Fr w L (W.drewN q) := ⟨⟨h.old.os, h.old.tape, h.old.output, h.old.size, h.old.block⟩, h.obs, h.new, h.nd⟩
theorem Fr.calls {w W W' : World} {L : List Ob} (h : Fr w L W) (hb : Below W.heap.size W W') : Fr w L W' :=
  ⟨h.old.trans (hb.mono h.old.size), fun o ho => (h.obs o ho).calls hb, h.new, h.nd⟩
theorem Fr.besides {w W W' : World} {L : List Ob} {C : Nat} (h : Fr w L W) (hb : Besides C W W') (hw : w.heap.size ≤ C) (hC : ∀ o ∈ L, o.b ≠ C) : Fr w L W' :=
  ⟨h.old.trans (hb.below hw h.old.size), fun o ho => (h.obs o ho).besides hb (hC o ho), h.new, h.nd⟩
theorem Fr.put {w W : World} {L : List Ob} (h : Fr w L W) (t : TypeId) (cs : List Value) : Fr w (L ++ [⟨W.heap.size, t, cs⟩]) (W.alloc (.cells cs.toArray t)) := by
  refine ⟨h.old.trans (((Below.refl _ _).alloc (Nat.le_refl _) _).mono h.old.size), fun o ho => ?_, fun o ho => ?_, ?_⟩
  · rcases List.mem_append.1 ho with ho | ho
    · exact (h.obs o ho).calls ((Below.refl _ _).alloc (Nat.le_refl _) _)
    · obtain rfl := List.mem_singleton.1 ho
      exact heap_alloc_last W _
  · rcases List.mem_append.1 ho with ho | ho
    · exact h.new o ho
    · obtain rfl := List.mem_singleton.1 ho
      exact h.old.size
  · rw [List.pairwise_append]
    refine ⟨h.nd, List.pairwise_singleton _ _, fun a ha b hb => ?_⟩
    obtain rfl := List.mem_singleton.1 hb
    have := (h.obs a ha).lt
    show a.b ≠ W.heap.size
    omega
theorem pair_ne {L : List Ob} (hn : L.Pairwise fun o o' => o.b ≠ o'.b) : ∀ (i j : Nat) (x y : Ob), L[i]? = some x → L[j]? = some y → i ≠ j → x.b ≠ y.b := by
  induction L with
  | nil => intro i j x y hx; simp at hx
  | cons z l ih =>
    rw [List.pairwise_cons] at hn
    intro i j x y hx hy hij
    cases i with
    | zero =>
      cases j with
      | zero => exact absurd rfl hij
      | succ j =>
        obtain rfl : z = x := by simpa using hx
        exact hn.1 y (List.mem_of_getElem? (by simpa using hy))
    | succ i =>
      cases j with
      | zero =>
        obtain rfl : z = y := by simpa using hy
        exact fun e => hn.1 x (List.mem_of_getElem? (by simpa using hx)) e.symm
      | succ j => exact ih hn.2 i j x y (by simpa using hx) (by simpa using hy) (by omega)
theorem Fr.ne {w W : World} {L : List Ob} (h : Fr w L W) (i j : Nat) {b c : Nat} {t u : TypeId} {x y : List Value} (ei : L[i]? = some ⟨b, t, x⟩) (ej : L[j]? = some ⟨c, u, y⟩) (hij : i ≠ j) : b ≠ c := pair_ne h.nd i j _ _ ei ej hij
theorem pair_set {L : List Ob} {i : Nat} {o : Ob} (hn : L.Pairwise fun o o' => o.b ≠ o'.b) (e : L[i]? = some o) (o' : Ob) (hb : o'.b = o.b) : (L.set i o').Pairwise fun o o' => o.b ≠ o'.b := by
  induction L generalizing i with
  | nil => simp at e
  | cons x l ih =>
    rw [List.pairwise_cons] at hn
    cases i with
    | zero =>
      obtain rfl : x = o := by simpa using e
      rw [List.set_cons_zero, List.pairwise_cons]
      exact ⟨fun y hy => by rw [hb]; exact hn.1 y hy, hn.2⟩
    | succ i =>
      have e' : l[i]? = some o := by simpa using e
      rw [List.set_cons_succ, List.pairwise_cons]
      refine ⟨fun y hy => ?_, ih hn.2 e'⟩
      rcases List.mem_or_eq_of_mem_set hy with hy | rfl
      · exact hn.1 y hy
      · rw [hb]; exact hn.1 o (List.mem_of_getElem? e')
theorem other_of {L : List Ob} {i : Nat} {o x : Ob} (hn : L.Pairwise fun o o' => o.b ≠ o'.b) (e : L[i]? = some o) (o' : Ob) (hx : x ∈ L.set i o') : x = o' ∨ (x ∈ L ∧ x.b ≠ o.b) := by
  induction L generalizing i with
  | nil => simp at e
  | cons y l ih =>
    rw [List.pairwise_cons] at hn
    cases i with
    | zero =>
      obtain rfl : y = o := by simpa using e
      rw [List.set_cons_zero] at hx
      rcases List.mem_cons.1 hx with rfl | hx
      · exact .inl rfl
      · exact .inr ⟨List.mem_cons_of_mem _ hx, fun e => hn.1 x hx e.symm⟩
    | succ i =>
      have e' : l[i]? = some o := by simpa using e
      rw [List.set_cons_succ] at hx
      rcases List.mem_cons.1 hx with rfl | hx
      · exact .inr ⟨List.mem_cons_self .., hn.1 o (List.mem_of_getElem? e')⟩
      · rcases ih hn.2 e' hx with h | h
        · exact .inl h
        · exact .inr ⟨List.mem_cons_of_mem _ h.1, h.2⟩
/-- an object turned, the others as they were -/
theorem Fr.turn {w W W' : World} {L : List Ob} (h : Fr w L W) (i : Nat) {o : Ob} (e : L[i]? = some o) (cs : List Value) (hn : Ob.In ⟨o.b, o.t, cs⟩ W') (ho : ∀ k, k ≠ o.b → W'.heap[k]? = W.heap[k]?) (hos : W'.os = W.os) (ht : W'.tape = W.tape) (hout : W'.output = W.output) (hs : W.heap.size ≤ W'.heap.size) :
    Fr w (L.set i ⟨o.b, o.t, cs⟩) W' := by
  have hm := List.mem_of_getElem? e
  refine ⟨⟨hos.trans h.old.os, ht.trans h.old.tape, hout.trans h.old.output, Nat.le_trans h.old.size hs, fun k hk => (ho k (by have := h.new o hm; omega)).trans (h.old.block k hk)⟩, fun x hx => ?_, fun x hx => ?_, pair_set h.nd e _ rfl⟩
  · rcases other_of h.nd e _ hx with rfl | ⟨hx, hb⟩
    · exact hn
    · exact (ho x.b hb).trans (h.obs x hx)
  · rcases other_of h.nd e _ hx with rfl | ⟨hx, hb⟩
    · exact h.new o hm
    · exact h.new x hx
theorem Fr.set {w W : World} {L : List Ob} (h : Fr w L W) (i : Nat) {o : Ob} (e : L[i]? = some o) (k : Nat) (v : Value) : Fr w (L.set i ⟨o.b, o.t, o.cs.set k v⟩) (W.setCell ⟨o.b, k, none⟩ v) :=
  h.turn i e _ ((h.at i e).set k v) (fun j hj => Below.heap_setCell _ _ _ _ hj) rfl rfl rfl (by simp [World.setCell])
theorem Fr.row {w W : World} {L : List Ob} (h : Fr w L W) (i : Nat) {o : Ob} (e : L[i]? = some o) (cs : List Value) : Fr w (L.set i ⟨o.b, o.t, cs⟩) (W.setRow o.b cs.toArray) :=
  h.turn i e _ (setRow_heap _ _ _ _ _ _ (h.at i e)) (fun j hj => setRow_other _ _ _ _ hj) rfl rfl rfl (by simp [World.setRow])

/-- the same, and choices at block C -/
structure St (w : World) (C : Nat) (L : List Ob) (W : World) : Prop where
  fr : Fr w L W
  codes : CodesOk W C
  le : w.heap.size ≤ C
  ne : ∀ o ∈ L, o.b ≠ C
theorem St.old {w W : World} {C : Nat} {L : List Ob} (h : St w C L W) : Below w.heap.size w W := h.fr.old
theorem St.at {w W : World} {C : Nat} {L : List Ob} (h : St w C L W) (i : Nat) {o : Ob} (e : L[i]? = some o) : o.In W := h.fr.at i e
theorem St.get {w W : World} {C : Nat} {L : List Ob} (h : St w C L W) (i : Nat) {b : Nat} {t : TypeId} {cs : List Value} (e : L[i]? = some ⟨b, t, cs⟩) : W.heap[b]? = some (.cells cs.toArray t (0, 0)) := h.fr.at i e
theorem St.drew {w W : World} {C : Nat} {L : List Ob} (h : St w C L W) : St w C L W.drew := ⟨h.fr.drew, h.codes.drew, h.le, h.ne⟩
theorem St.drewN {w W : World} {C : Nat} {L : List Ob} (h : St w C L W) (q : Nat) : St w C L (W.drewN q) := ⟨h.fr.drewN q, h.codes.drewN q, h.le, h.ne⟩
theorem St.calls {w W W' : World} {C : Nat} {L : List Ob} (h : St w C L W) (hb : Below W.heap.size W W') : St w C L W' := ⟨h.fr.calls hb, h.codes.below hb h.codes.lt, h.le, h.ne⟩
theorem St.draws {w W W' : World} {C : Nat} {L : List Ob} (h : St w C L W) (hb : Besides C W W') (hc : CodesOk W' C) : St w C L W' := ⟨h.fr.besides hb h.le h.ne, hc, h.le, h.ne⟩
theorem St.put {w W : World} {C : Nat} {L : List Ob} (h : St w C L W) (t : TypeId) (cs : List Value) : St w C (L ++ [⟨W.heap.size, t, cs⟩]) (W.alloc (.cells cs.toArray t)) :=
  ⟨h.fr.put t cs, h.codes.below ((Below.refl _ _).alloc (Nat.le_refl _) _) h.codes.lt, h.le, fun o ho => by
    rcases List.mem_append.1 ho with ho | ho
    · exact h.ne o ho
    · obtain rfl := List.mem_singleton.1 ho
      have := h.codes.lt
      show W.heap.size ≠ C
      omega⟩
theorem ne_set {L : List Ob} {i : Nat} {o o' : Ob} {C : Nat} (h : ∀ x ∈ L, x.b ≠ C) (e : L[i]? = some o) (hb : o'.b = o.b) : ∀ x ∈ L.set i o', x.b ≠ C := fun x hx => by
  rcases List.mem_or_eq_of_mem_set hx with hx | rfl
  · exact h x hx
  · rw [hb]; exact h o (List.mem_of_getElem? e)
theorem St.set {w W : World} {C : Nat} {L : List Ob} (h : St w C L W) (i : Nat) {o : Ob} (e : L[i]? = some o) (hC : C < o.b) (k : Nat) (v : Value) : St w C (L.set i ⟨o.b, o.t, o.cs.set k v⟩) (W.setCell ⟨o.b, k, none⟩ v) :=
  ⟨h.fr.set i e k v, CodesOk.setOwn h.codes hC k v, h.le, ne_set h.ne e rfl⟩
theorem St.row {w W : World} {C : Nat} {L : List Ob} (h : St w C L W) (i : Nat) {o : Ob} (e : L[i]? = some o) (hC : C < o.b) (cs : List Value) : St w C (L.set i ⟨o.b, o.t, cs⟩) (W.setRow o.b cs.toArray) :=
  ⟨h.fr.row i e cs, h.codes.below (below_setRow (Below.refl o.b W) (Nat.le_refl _) _) hC, h.le, ne_set h.ne e rfl⟩
/-- the choices begin: behind what was made before -/
theorem St.begin {w W W' : World} {L : List Ob} (h : Fr w L W) (hb : Below W.heap.size W W') (hc : CodesOk W' W.heap.size) : St w W.heap.size L W' :=
  ⟨h.calls hb, hc, h.old.size, fun o ho => by have := (h.obs o ho).lt; omega⟩

/-- within a function that is handed choices: all but those is as it was, and these objects are new -/
structure Dr (w : World) (C : Nat) (L : List Ob) (W : World) : Prop where
  bes : Besides C w W
  codes : CodesOk W C
  lt : C < w.heap.size
  obs : ∀ o ∈ L, o.In W
  new : ∀ o ∈ L, w.heap.size ≤ o.b
  nd : L.Pairwise fun o o' => o.b ≠ o'.b
theorem Dr.start {w : World} {C : Nat} (h : CodesOk w C) : Dr w C [] w := ⟨Besides.refl _ _, h, h.lt, by simp, by simp, .nil⟩
theorem Dr.get {w W : World} {C : Nat} {L : List Ob} (h : Dr w C L W) (i : Nat) {b : Nat} {t : TypeId} {cs : List Value} (e : L[i]? = some ⟨b, t, cs⟩) : W.heap[b]? = some (.cells cs.toArray t (0, 0)) := h.obs _ (List.mem_of_getElem? e)
theorem Dr.at {w W : World} {C : Nat} {L : List Ob} (h : Dr w C L W) (i : Nat) {o : Ob} (e : L[i]? = some o) : o.In W := h.obs _ (List.mem_of_getElem? e)
theorem Dr.draws {w W W' : World} {C : Nat} {L : List Ob} (h : Dr w C L W) (hb : Besides C W W') (hc : CodesOk W' C) : Dr w C L W' :=
  ⟨h.bes.trans hb, hc, h.lt, fun o ho => (h.obs o ho).besides hb (by have := h.new o ho; have := h.lt; omega), h.new, h.nd⟩
theorem Dr.put {w W : World} {C : Nat} {L : List Ob} (h : Dr w C L W) (t : TypeId) (cs : List Value) : Dr w C (L ++ [⟨W.heap.size, t, cs⟩]) (W.alloc (.cells cs.toArray t)) := by
  refine ⟨h.bes.alloc _, h.codes.below ((Below.refl _ _).alloc (Nat.le_refl _) _) h.codes.lt, h.lt, fun o ho => ?_, fun o ho => ?_, ?_⟩
  · rcases List.mem_append.1 ho with ho | ho
    · exact (h.obs o ho).calls ((Below.refl _ _).alloc (Nat.le_refl _) _)
    · obtain rfl := List.mem_singleton.1 ho
      exact heap_alloc_last W _
  · rcases List.mem_append.1 ho with ho | ho
    · exact h.new o ho
    · obtain rfl := List.mem_singleton.1 ho
      exact h.bes.size
  · rw [List.pairwise_append]
    refine ⟨h.nd, List.pairwise_singleton _ _, fun a ha b hb => ?_⟩
    obtain rfl := List.mem_singleton.1 hb
    have := (h.obs a ha).lt
    show a.b ≠ W.heap.size
    omega
theorem Dr.turn {w W W' : World} {C : Nat} {L : List Ob} (h : Dr w C L W) (i : Nat) {o : Ob} (e : L[i]? = some o) (cs : List Value) (hn : Ob.In ⟨o.b, o.t, cs⟩ W') (hb : Below o.b W W') (ho : ∀ k, k ≠ o.b → W'.heap[k]? = W.heap[k]?) : Dr w C (L.set i ⟨o.b, o.t, cs⟩) W' := by
  have hm := List.mem_of_getElem? e
  have hnw := h.new o hm
  have hlt := h.lt
  refine ⟨⟨hb.os.trans h.bes.os, hb.tape.trans h.bes.tape, hb.output.trans h.bes.output, Nat.le_trans h.bes.size hb.size, fun k hk hC => (ho k (by omega)).trans (h.bes.block k hk hC), fun hC => (World.cell?_of_block (a := ⟨C, 0, none⟩) (ho C (by omega))).trans (h.bes.head hC)⟩, h.codes.below hb (by omega), hlt, fun x hx => ?_, fun x hx => ?_, pair_set h.nd e _ rfl⟩
  · rcases other_of h.nd e _ hx with rfl | ⟨hx, hb⟩
    · exact hn
    · exact (ho x.b hb).trans (h.obs x hx)
  · rcases other_of h.nd e _ hx with rfl | ⟨hx, hb⟩
    · exact hnw
    · exact h.new x hx
theorem Dr.set {w W : World} {C : Nat} {L : List Ob} (h : Dr w C L W) (i : Nat) {o : Ob} (e : L[i]? = some o) (k : Nat) (v : Value) : Dr w C (L.set i ⟨o.b, o.t, o.cs.set k v⟩) (W.setCell ⟨o.b, k, none⟩ v) :=
  h.turn i e _ ((h.at i e).set k v) ((Below.refl _ _).setCell (p := ⟨o.b, k, none⟩) (Nat.le_refl _) v) (fun _ hj => Below.heap_setCell _ _ _ _ hj)
theorem Dr.row {w W : World} {C : Nat} {L : List Ob} (h : Dr w C L W) (i : Nat) {o : Ob} (e : L[i]? = some o) (cs : List Value) : Dr w C (L.set i ⟨o.b, o.t, cs⟩) (W.setRow o.b cs.toArray) :=
  h.turn i e _ (setRow_heap _ _ _ _ _ _ (h.at i e)) (below_setRow (Below.refl _ _) (Nat.le_refl _) _) (fun _ hj => setRow_other _ _ _ _ hj)

/-- the operations on whole objects, written out: where another one stands they fail at once -/
theorem wpList_store_ob (t : TypeId) (x : Operand) {y : Operand} {ops : Array Oper} {rest : List Oper} {a : Act} {w : World} {Q : Exit → Act → World → Prop} {ty : TypeId} {pos : String} {aft : Array Edge}
    (b : Nat) (cs zs : List Value) (t0 : TypeId) (hx : a.eval x = .pointer (some ⟨b, 0, none⟩)) (hy : a.eval y = .agg cs.toArray) (hg : w.heap[b]? = some (.cells zs.toArray t0 (0, 0)))
    (hi : (Try.prog.info? t).map (·.size) = some cs.length) (hl : zs.length = cs.length) (h1 : cs.toArray.all (·.oneCell') = true)
    (h : wpList Try.prog ops Q rest a (w.setRow b cs.toArray)) :
    wpList Try.prog ops Q ({ dst := none, op := .store t x y, type := ty, pos := pos, after := aft, guard := none } :: rest) a w :=
  wpList_store_row rfl t x y rfl b cs.toArray hx hy t0 zs.toArray hg (by rw [List.size_toArray]; exact hi) (by rw [List.size_toArray, List.size_toArray]; exact hl) h1 h
theorem wpList_load_ob (t : TypeId) (x : Operand) {ops : Array Oper} {rest : List Oper} {a : Act} {w : World} {Q : Exit → Act → World → Prop} {d : Option Tmp} {ty : TypeId} {pos : String} {aft : Array Edge}
    (b : Nat) (cs : List Value) (t0 : TypeId) {ds : TypeDesc} (hu : Try.prog.underlying t = some ds) (hx : a.eval x = .pointer (some ⟨b, 0, none⟩)) (hg : w.heap[b]? = some (.cells cs.toArray t0 (0, 0)))
    (hd : ds.isRow = true) (hi : (Try.prog.info? t).map (·.size) = some cs.length)
    (h : wpList Try.prog ops Q rest (a.put d (.agg cs.toArray)) w) :
    wpList Try.prog ops Q ({ dst := d, op := .load t x, type := ty, pos := pos, after := aft, guard := none } :: rest) a w :=
  wpList_load_row rfl t x rfl b hx t0 cs.toArray (0, 0) ds hg hu (by cases ds <;> simp_all) (by rw [List.size_toArray]; exact hi) h
theorem wpList_load_row_g {ops : Array Oper} {rest : List Oper} {o : Oper} {a : Act} {w : World} {Q : Exit → Act → World → Prop} (hw : Region.wanted o (yielded ops a.tmps) = true) (ty : TypeId) (x : Operand) (ho : o.op = .load ty x)
    (g : Nat) (hx : a.eval x = .pointer (some ⟨g, 0, none⟩)) (t : TypeId) (cs : Array Value) (fr : Nat × Nat) (d : TypeDesc) (hg : w.heap[g]? = some (.cells cs t fr))
    (hu : Try.prog.underlying ty = some d) (hd : d.isRow = true) (hi : (Try.prog.info? ty).map (·.size) = some cs.size)
    (h : wpList Try.prog ops Q rest (a.put o.dst (.agg cs)) w) : wpList Try.prog ops Q (o :: rest) a w :=
  wpList_step fun K hK => by
    rw [if_pos hw]
    exact wp_load_row ty x ho g hx t cs fr d hg hu (by cases d <;> simp_all) hi (hK _ _ h)
theorem wpList_load_ob_w (t : TypeId) (x : Operand) {ops : Array Oper} {rest : List Oper} {a : Act} {w : World} {Q : Exit → Act → World → Prop} {d : Option Tmp} {ty : TypeId} {pos : String} {aft : Array Edge} {gd : Nat × Bool}
    (b : Nat) (cs : List Value) (t0 : TypeId) {ds : TypeDesc} (hu : Try.prog.underlying t = some ds) (hw : Region.wanted { dst := d, op := .load t x, type := ty, pos := pos, after := aft, guard := some gd } (yielded ops a.tmps) = true) (hx : a.eval x = .pointer (some ⟨b, 0, none⟩)) (hg : w.heap[b]? = some (.cells cs.toArray t0 (0, 0)))
    (hd : ds.isRow = true) (hi : (Try.prog.info? t).map (·.size) = some cs.length)
    (h : wpList Try.prog ops Q rest (a.put d (.agg cs.toArray)) w) :
    wpList Try.prog ops Q ({ dst := d, op := .load t x, type := ty, pos := pos, after := aft, guard := some gd } :: rest) a w :=
  wpList_load_row_g hw t x rfl b hx t0 cs.toArray (0, 0) ds hg hu hd (by rw [List.size_toArray]; exact hi) h
theorem wpList_load_at (t : TypeId) (x : Operand) {ops : Array Oper} {rest : List Oper} {a : Act} {w : World} {Q : Exit → Act → World → Prop} {d : Option Tmp} {ty : TypeId} {pos : String} {aft : Array Edge}
    (b o : Nat) (cs : List Value) {ds : TypeDesc} (hu : Try.prog.underlying t = some ds) (hx : a.eval x = .pointer (some ⟨b, o, none⟩)) (hg : w.rangeAt b o cs)
    (hd : ds.isRow = true) (hi : (Try.prog.info? t).map (·.size) = some cs.length)
    (h : wpList Try.prog ops Q rest (a.put d (.agg cs.toArray)) w) :
    wpList Try.prog ops Q ({ dst := d, op := .load t x, type := ty, pos := pos, after := aft, guard := none } :: rest) a w :=
  wpList_load_mid rfl t x rfl b o hx cs ds hg hu hd hi h
/-- an object and a word, as the results -/
theorem results_ob_tmp {fn : Func} {p u : Tmp} {t : TypeId} (h : fn.results = #[.cell p t, .tmp u]) (tmps : Array Value) (w : World) (g : Nat) (cs : List Value) (t0 : TypeId) (ds : TypeDesc)
    (hp : tmps.getD p undef = .pointer (some ⟨g, 0, none⟩)) (hg : w.heap[g]? = some (.cells cs.toArray t0 (0, 0))) (hu : Try.prog.underlying t = some ds) (hd : ds.isRow = true) (hi : (Try.prog.info? t).map (·.size) = some cs.length) :
    (results fn tmps).run Try.prog w = .ok (.tuple #[.agg cs.toArray, tmps.getD u undef]) w := by
  rw [results_cell_tmp h, hp]
  simp [asAddr, run_loadVar_row w g t0 t cs.toArray (0, 0) ds hg hu (by cases ds <;> simp_all) (by rw [List.size_toArray]; exact hi), Result.andThen]
theorem results_ob {fn : Func} {p : Tmp} {t : TypeId} (h : fn.results = #[.cell p t]) (tmps : Array Value) (w : World) (g : Nat) (cs : List Value) (t0 : TypeId) (ds : TypeDesc)
    (hp : tmps.getD p undef = .pointer (some ⟨g, 0, none⟩)) (hg : w.heap[g]? = some (.cells cs.toArray t0 (0, 0))) (hu : Try.prog.underlying t = some ds) (hd : ds.isRow = true) (hi : (Try.prog.info? t).map (·.size) = some cs.length) :
    (results fn tmps).run Try.prog w = .ok (.agg cs.toArray) w :=
  results_cell_row h tmps w g t0 cs.toArray (0, 0) ds hp hg hu (by cases ds <;> simp_all) (by rw [List.size_toArray]; exact hi)
/-- an object is made -/
theorem wp_alloc_ob {o : Oper} {a : Act} {w : World} {K : Act → World → Prop} {Q : Exit → Act → World → Prop} (t : TypeId) (cs : List Value) (ho : o.op = .alloc t)
    (hr : ∀ W, Sem.run Try.prog (Instr.alloc t true (.tuple #[])) W = .ok (.pointer (some ⟨W.heap.size, 0, none⟩)) (W.alloc (.cells cs.toArray t)))
    (h : K (a.put o.dst (.pointer (some ⟨w.heap.size, 0, none⟩))) (w.alloc (.cells cs.toArray t))) : o.wp Try.prog a w K Q := by
  unfold Oper.wp execOp
  simp only [ho, Sem.run_bind, hr w, Result.andThen_ok, Sem.run_pure]
  exact h
theorem wpList_alloc_ob (t : TypeId) (cs : List Value) {ops : Array Oper} {rest : List Oper} {a : Act} {w : World} {Q : Exit → Act → World → Prop} {d : Option Tmp} {ty : TypeId} {pos : String} {aft : Array Edge}
    (hr : ∀ W, Sem.run Try.prog (Instr.alloc t true (.tuple #[])) W = .ok (.pointer (some ⟨W.heap.size, 0, none⟩)) (W.alloc (.cells cs.toArray t)))
    (h : wpList Try.prog ops Q rest (a.put d (.pointer (some ⟨w.heap.size, 0, none⟩))) (w.alloc (.cells cs.toArray t))) :
    wpList Try.prog ops Q ({ dst := d, op := .alloc t, type := ty, pos := pos, after := aft, guard := none } :: rest) a w :=
  wpList_plain rfl fun _ hK => by
    unfold Oper.wp execOp
    have := hr w
    simp only [Sem.run_bind, this, Result.andThen_ok, Sem.run_pure]
    exact hK _ _ h
theorem wp_store_ob {o : Oper} {a : Act} {w : World} {K : Act → World → Prop} {Q : Exit → Act → World → Prop} (t : TypeId) (x y : Operand) (b : Nat) (cs zs : List Value) (t0 : TypeId) (ho : o.op = .store t x y) (hd : o.dst = none) (hx : a.eval x = .pointer (some ⟨b, 0, none⟩)) (hy : a.eval y = .agg cs.toArray) (hg : w.heap[b]? = some (.cells zs.toArray t0 (0, 0)))
    (hi : (Try.prog.info? t).map (·.size) = some cs.length) (hl : zs.length = cs.length) (h1 : cs.toArray.all (·.oneCell') = true)
    (h : K a (w.setRow b cs.toArray)) : o.wp Try.prog a w K Q :=
  wp_store_row t x y ho b cs.toArray hx hy t0 zs.toArray hg (by rw [List.size_toArray]; exact hi) (by rw [List.size_toArray, List.size_toArray]; exact hl) h1 (by rw [hd]; exact h)
/-- these objects lie there -/
def Obs (L : List Ob) (W : World) : Prop := ∀ o ∈ L, o.In W
theorem Obs.whole {L : List Ob} {W : World} (h : Obs L W) (i : Nat) {b : Nat} {t : TypeId} {cs : List Value} (e : L[i]? = some ⟨b, t, cs⟩) : W.rangeAt b 0 cs := (h _ (List.mem_of_getElem? e)).whole
theorem Obs.get {L : List Ob} {W : World} (h : Obs L W) (i : Nat) {b : Nat} {t : TypeId} {cs : List Value} (e : L[i]? = some ⟨b, t, cs⟩) : W.heap[b]? = some (.cells cs.toArray t (0, 0)) := h _ (List.mem_of_getElem? e)
theorem Obs.at {L : List Ob} {W : World} (h : Obs L W) (i k : Nat) {b : Nat} {t : TypeId} {cs : List Value} {v : Value} (e : L[i]? = some ⟨b, t, cs⟩) (hv : cs[k]? = some v) : W.cell? ⟨b, k, none⟩ = some v := (h _ (List.mem_of_getElem? e)).at k hv
theorem Obs.init {L M : List Ob} {W : World} (h : Obs (L ++ M) W) : Obs L W := fun o ho => h o (List.mem_append_left _ ho)
theorem Fr.all {w W : World} {L : List Ob} (h : Fr w L W) : Obs L W := h.obs
theorem St.all {w W : World} {C : Nat} {L : List Ob} (h : St w C L W) : Obs L W := h.fr.obs
/-- a value is built -/
theorem wpList_build_v (t : TypeId) {ps : Array (Nat × Operand)} {ops : Array Oper} {rest : List Oper} {a : Act} {w : World} {Q : Exit → Act → World → Prop} {d : Option Tmp} {ty : TypeId} {pos : String} {aft : Array Edge}
    (v : Value) (hb : ∀ W, Sem.run Try.prog (Instr.build t (ps.map fun x => (x.1, a.eval x.2))) W = .ok v W)
    (h : wpList Try.prog ops Q rest (a.put d v) w) :
    wpList Try.prog ops Q ({ dst := d, op := .build t ps, type := ty, pos := pos, after := aft, guard := none } :: rest) a w :=
  wpList_plain rfl fun K hK => by
    unfold Oper.wp execOp
    have := hb w
    simp only [Sem.run_bind, this, Result.andThen_ok, Sem.run_pure]
    exact hK _ _ h
theorem wpList_load_at_w (t : TypeId) (x : Operand) {ops : Array Oper} {rest : List Oper} {a : Act} {w : World} {Q : Exit → Act → World → Prop} {d : Option Tmp} {ty : TypeId} {pos : String} {aft : Array Edge} {gd : Nat × Bool}
    (b o : Nat) (cs : List Value) {ds : TypeDesc} (hu : Try.prog.underlying t = some ds) (hw : Region.wanted { dst := d, op := .load t x, type := ty, pos := pos, after := aft, guard := some gd } (yielded ops a.tmps) = true) (hx : a.eval x = .pointer (some ⟨b, o, none⟩)) (hg : w.rangeAt b o cs)
    (hd : ds.isRow = true) (hi : (Try.prog.info? t).map (·.size) = some cs.length)
    (h : wpList Try.prog ops Q rest (a.put d (.agg cs.toArray)) w) :
    wpList Try.prog ops Q ({ dst := d, op := .load t x, type := ty, pos := pos, after := aft, guard := some gd } :: rest) a w :=
  wpList_step fun K hK => by
    rw [if_pos hw]
    exact wp_load_mid t x rfl b o hx cs ds hg hu hd hi (hK _ _ h)
/-- two values of one type are compared by their words -/
noncomputable def sameV {α : Type} (a b : α) : Bool := @decide (a = b) (Classical.propDecidable _)
theorem sameV_iff {α : Type} {a b : α} : sameV a b = true ↔ a = b := by unfold sameV; exact @decide_eq_true_iff (a = b) (Classical.propDecidable _)
theorem sameV_self {α : Type} (a : α) : sameV a a = true := sameV_iff.2 rfl
theorem sameV_comm {α : Type} (a b : α) : sameV a b = sameV b a := by rw [Bool.eq_iff_iff, sameV_iff, sameV_iff]; exact eq_comm
theorem equal_lits {α : Type} (t : TypeId) (a b : α) (x y : List Value) (la lb : List Lit) (hd : Try.prog.keyTypeAt 4 t = true) (fx : (Value.agg x.toArray).formed Try.prog t = true) (fy : (Value.agg y.toArray).formed Try.prog t = true) (lx : Try.prog.keyLits 4 t x = some la) (ly : Try.prog.keyLits 4 t y = some lb) (hi : la = lb ↔ a = b) (w : World) :
    Sem.run Try.prog (Op.equal t (.agg x.toArray) (.agg y.toArray)) w = .ok (sameV a b) w := by
  obtain ⟨r, hr, hiff⟩ := run_equalIn_deep (P := Try.prog) 9996 4 t hd w 4 4 (.agg x.toArray) (.agg y.toArray) la lb fx fy lx ly
  have e : sameV a b = r := by rw [Bool.eq_iff_iff, hiff, sameV_iff]; exact hi.symm
  rw [e]
  exact hr
theorem run_eql {α : Type} {t : TypeId} {a b : α} {x y : List Value} (h : ∀ w, Sem.run Try.prog (Op.equal t (.agg x.toArray) (.agg y.toArray)) w = .ok (sameV a b) w) (w : World) :
    Sem.run Try.prog (binOp .eql t (.agg x.toArray) (.agg y.toArray)) w = .ok (.bool (sameV a b)) w := by
  simp only [binOp, Sem.run_bind, h, Result.andThen_ok, Sem.run_pure]
theorem run_neq {α : Type} {t : TypeId} {a b : α} {x y : List Value} (h : ∀ w, Sem.run Try.prog (Op.equal t (.agg x.toArray) (.agg y.toArray)) w = .ok (sameV a b) w) (w : World) :
    Sem.run Try.prog (binOp .neq t (.agg x.toArray) (.agg y.toArray)) w = .ok (.bool (!sameV a b)) w := by
  simp only [binOp, Sem.run_bind, h, Result.andThen_ok, Sem.run_pure]
end Go.Proofs.Ytgljhfofikjbdaa
/- cells as values -/
namespace Go.Proofs.Ytgljhfofikjbdaa
open Go.RowKit

structure Cl where
  set : Bool
  data : ByteArray
def clCells (c : Cl) : List Value := [.bool c.set, .string c.data]
def clV (c : Cl) : Value := .agg (clCells c).toArray
def rowCells (l : List Cl) : List Value := l.flatMap clCells
theorem rowCells_get : ∀ (l : List Cl) (k : Nat) (h : k < l.length), (rowCells l)[2 * k]? = some (.bool l[k].set) ∧ (rowCells l)[2 * k + 1]? = some (.string l[k].data)
  | [], k, h => by simp at h
  | c :: l, 0, _ => ⟨rfl, rfl⟩
  | c :: l, k + 1, h => by
    have := rowCells_get l k (by simpa using h)
    exact this
theorem rowCells_length (l : List Cl) : (rowCells l).length = 2 * l.length := by
  induction l with
  | nil => rfl
  | cons c l ih => show (clCells c ++ rowCells l).length = _; rw [List.length_append, ih, List.length_cons]; simp only [clCells, List.length_cons, List.length_nil]; omega
def cellOkB (c : Cl) : Bool := decide (c.data.size ≤ 12) && (c.set || decide (c.data.size = 0))
def emptyCl : Cl := ⟨false, ⟨#[]⟩⟩
end Go.Proofs.Ytgljhfofikjbdaa
/- whether two cells are equal, as the program compares them -/
namespace Go.Proofs.Ytgljhfofikjbdaa
open Go.RowKit

def clLits (c : Cl) : List Lit := [.bool c.set, .string c.data.data.toList]
theorem clLits_inj : ∀ (a b : List Cl), a.flatMap clLits = b.flatMap clLits → a = b
  | [], [], _ => rfl
  | [], y :: ys, h => by simp [clLits] at h
  | x :: xs, [], h => by simp [clLits] at h
  | x :: xs, y :: ys, h => by
    simp only [List.flatMap_cons, clLits, List.cons_append, List.nil_append, List.cons.injEq, Lit.bool.injEq, Lit.string.injEq] at h
    obtain ⟨h1, h2, h3⟩ := h
    obtain ⟨s, d⟩ := x
    obtain ⟨s', d'⟩ := y
    simp only at h1 h2
    rw [h1, str_eq h2, clLits_inj xs ys h3]
theorem mapM_some {α β : Type} (f : α → Option β) (g : α → β) : ∀ (l : List α), (∀ a ∈ l, f a = some (g a)) → l.mapM f = some (l.map g)
  | [], _ => rfl
  | a :: l, h => by
    rw [List.mapM_cons, h a (List.mem_cons_self ..), mapM_some f g l (fun x hx => h x (List.mem_cons_of_mem _ hx))]
    rfl
theorem cellsOf_cell : Try.prog.cellsOf 24 = 2 := by kernel_rfl
theorem cellsOf_int : Try.prog.cellsOf 3 = 1 := by kernel_rfl
theorem cellsOf_bool : Try.prog.cellsOf 4 = 1 := by kernel_rfl
theorem cellsOf_string : Try.prog.cellsOf 9 = 1 := by kernel_rfl
theorem lits_int (d : Nat) (n : Int) (h : (Lit.int .i64 n).wf = true) : Try.prog.keyLits (d + 1) 3 [.int .i64 n] = some [.int .i64 n] := by
  simp [Program.keyLits, Try.underlying3, h]
theorem lits_bool (d : Nat) (b : Bool) : Try.prog.keyLits (d + 1) 4 [.bool b] = some [.bool b] := by
  simp [Program.keyLits, Try.underlying4]
theorem lits_string (d : Nat) (s : ByteArray) (h : s.size ≤ maxLen) : Try.prog.keyLits (d + 1) 9 [.string s] = some [.string s.data.toList] := by
  simp [Program.keyLits, Try.underlying9, h]
theorem lits_cell (d : Nat) (c : Cl) (h : c.data.size ≤ maxLen) : Try.prog.keyLits (d + 2) 24 (clCells c) = some (clLits c) := by
  unfold clCells
  rw [show d + 2 = (d + 1) + 1 from rfl]
  unfold Program.keyLits
  rw [Try.underlying24]
  simp only
  rw [if_pos ⟨by rw [cellsOf_cell]; rfl, by kernel_rfl⟩]
  have h1 : Try.prog.keyLits (d + 1) 4 [.bool c.set] = some [.bool c.set] := lits_bool d c.set
  have h2 := lits_string d c.data h
  simp only [List.mapM_cons, List.mapM_nil, cellsOf_bool, cellsOf_string, List.drop_zero, List.take_succ_cons, List.take_zero, List.drop_succ_cons, h1, h2]
  rfl
end Go.Proofs.Ytgljhfofikjbdaa
/- the choices of the drawing package: Data -/
namespace Go.Proofs.Ytgljhfofikjbdaa
open Go.RowKit
set_option maxRecDepth 20000

/-- what Data leaves: some short text -/
def DataPost (C : Nat) (w : World) (e : Ending) (w' : World) : Prop :=
  ∃ s : ByteArray, e = .returned (.string s) ∧ s.size ≤ 13 ∧ Besides C w w' ∧ CodesOk w' C
/-- a row of bytes of the call's own is read as a text -/
theorem conv_own (W : World) (base : Nat) (v : Value) (l : List UInt8) (h : W.ownsRow base 5 1 v l.length (l.map (fun b => Value.int .u8 (b.toNat : Int)))) (hv : v ≠ .slice none 0 0) :
    Sem.run Try.prog (convert 22 9 v) W = .ok (.string ⟨l.toArray⟩) W := by
  rcases h.2 with ⟨h1, _⟩ | ⟨g, cap, cur, rfl, _, hg, _⟩
  · exact absurd h1 hv
  · refine run_convert_bytes_back (P := Try.prog) W 22 9 5 ⟨g, 0, none⟩ cap l Try.underlying22 Try.underlying5 Try.underlying9 (fun j hj => ?_)
    exact h.cells rfl j _ (by rw [List.getElem?_map, List.getElem?_eq_getElem hj]; rfl)

theorem Besides.of_grown {C : Nat} {w w' : World} (h : w.grownBy w' none) : Besides C w w' := ⟨h.os, h.tape, h.output, h.size, fun k hk _ => h.block k hk (by simp), fun hC => World.cell?_of_block (a := ⟨C, 0, none⟩) (h.block C hC (by simp))⟩
theorem Below.of_grown {w w' : World} (h : w.grownBy w' none) : Below w.heap.size w w' := ⟨h.os, h.tape, h.output, h.size, fun k hk => h.block k hk (by simp)⟩

theorem Besides.grown {C : Nat} {a w w' : World} {row : Option Nat} (h : Besides C a w) (hg : w.grownBy w' row) (hr : ∀ k, row = some k → a.heap.size ≤ k) : Besides C a w' :=
  ⟨hg.os.trans h.os, hg.tape.trans h.tape, hg.output.trans h.output, Nat.le_trans h.size hg.size, fun k hk hC => (hg.block k (Nat.lt_of_lt_of_le hk h.size) (fun e => by have := hr k e.symm; omega)).trans (h.block k hk hC),
    fun hC => (World.cell?_of_block (a := ⟨C, 0, none⟩) (hg.block C (Nat.lt_of_lt_of_le hC h.size) (fun e => by have := hr C e.symm; omega))).trans (h.head hC)⟩
theorem own_lt {B : Nat} {W : World} {e : TypeId} {z n : Nat} {v : Value} {xs : List Value} (h : W.ownsRow B e z v n xs) (hv : v ≠ .slice none 0 0) : B < W.heap.size := by
  rcases h.2 with ⟨h1, _⟩ | ⟨g, cap, cur, rfl, hB, hg, _⟩
  · exact absurd h1 hv
  · have := (Array.getElem?_eq_some_iff.1 hg).1; omega
theorem own_besides {B C : Nat} {W W' : World} {e : TypeId} {z n : Nat} {v : Value} {xs : List Value} (h : W.ownsRow B e z v n xs) (hb : Besides C W W') (hC : C < B) : W'.ownsRow B e z v n xs :=
  h.kept (row := some C) ⟨hb.os, hb.tape, hb.output, hb.size, fun k hk hne => hb.block k hk (by intro e; exact hne (by rw [e]))⟩ (by
    cases hv : v.ownBlock with
    | none => exact .inl rfl
    | some k => right; intro e; injection e with e; have := (h.lt k hv).1; omega)

set_option maxHeartbeats 1000000 in
theorem data_any (C : Nat) (w : World) (h : CodesOk w C) :
    Calls Try.prog 23 #[.pointer (some ⟨C, 0, none⟩)] w (DataPost C w) := by
  have HK := Lib.hid h
  clear h
  obtain ⟨i0, hi, hz0, hz1, hz2⟩ := info_byte'
  go_enter Try.func23, Try.ntmps23
  go_wp2_with fail
  refine (next_any C 5 _ HK.out (by omega)).mono ?_
  rintro e w2 ⟨n, rfl, n0, n1, hb2, hc2⟩
  have HB2 := Lib.hid hb2
  have HC2 := Lib.hid hc2
  clear hb2 hc2
  go_wp2_with fail
  refine (next_any C 6 _ HC2.out (by omega)).mono ?_
  rintro e w3 ⟨m, rfl, m0, m1, hb3, hc3⟩
  have HB3 := Lib.hid (HB2.out.trans hb3)
  have HC3 := Lib.hid hc3
  clear m1 hb3 hc3
  by_cases h0 : m = 0
  · have h0b : (m == 0) = true := by rw [h0]; rfl
    clear h0
    go_wp2_with fail
    refine (next_any C 14 _ HC3.out (by omega)).mono ?_
    rintro e w4 ⟨x, rfl, x0, x1, hb4, hc4⟩
    obtain ⟨n, rfl⟩ := Int.eq_ofNat_of_zero_le x0
    have hn : n ≤ 13 := by omega
    clear x1 x0
    have HB4 := Lib.hid (HB3.out.trans hb4)
    have HC4 := Lib.hid hc4
    clear hb4 hc4
    go_wp2_with (refine wpList_make_own _ rfl _ _ 22 rfl w4.heap.size 5 i0 (.int .u8 0) 1 Try.underlying22 hi hz0 hz1 .i64 .i64 _ n rfl rfl rfl ?m1 ?m2 ?m3 ?_)
    case m1 => rw [hz2]; omega
    case m2 => unfold maxLen; omega
    case m3 => exact Nat.le_refl _
    intro w5 hown5 hgr5
    have HB5 : Hid (Besides C w w5) := HB4.out.trans (Besides.of_grown hgr5)
    have HC5 : Hid (CodesOk w5 C) := HC4.out.below (Below.of_grown hgr5) HC4.out.lt
    have HBw : Hid (w.heap.size ≤ w4.heap.size) := HB4.out.size
    have HCB : Hid (C < w4.heap.size) := HC4.out.lt
    have HO5 := Lib.hid hown5
    clear hown5 hgr5
    generalize w4.heap.size = B at *
    go_wp2_with fail
    go_loopw [4, 5] (fun v i wr => ∃ (k : Nat) (l : List UInt8), k ≤ n ∧ i = .int .i64 k ∧ l.length = k ∧ v ≠ .slice none 0 0 ∧ wr.ownsRow B 5 1 v l.length (l.map (fun b => Value.int .u8 (b.toNat : Int))) ∧ Besides C w wr ∧ CodesOk wr C) (fun _ i _ => n - (intOf i).toNat)
    case atStart => exact ⟨0, [], by omega, rfl, rfl, by simp, HO5.out, HB5.out, HC5.out⟩
    case round =>
      obtain ⟨k, l, hk, rfl, hl, hv, hown, hbr, hcr⟩ := hrel
      have HV := Lib.hid hv
      have HO := Lib.hid hown
      have HBr := Lib.hid hbr
      have HCr := Lib.hid hcr
      have HL := Lib.hid hl
      clear hv hown hbr hcr hl
      by_cases hlt : (k : Int) < (n : Int)
      · go_wp2_with fail
        refine (next_any C 3 _ HCr.out (by omega)).mono ?_
        rintro e w6 ⟨x, rfl, x0, x1, hb6, hc6⟩
        have x2 : x ≤ 2 := by omega
        have HO6 := Lib.hid (own_besides HO.out hb6 HCB.out)
        have HB6 := Lib.hid (HBr.out.trans hb6)
        have HC6 := Lib.hid hc6
        have hwa : IntKind.i64.wrap (97 + x) = 97 + x := IntWalk.i64_in _ (by omega)
        have hwb : IntKind.u8.wrap (97 + x) = 97 + x := IntWalk.u8_in _ (by omega)
        have HX : Hid (Value.int .u8 (97 + x) = Value.int .u8 (((UInt8.ofNat (97 + x).toNat).toNat : Nat) : Int)) := by
          show _ = _
          rw [UInt8.toNat_ofNat', show (((97 + x).toNat % 2 ^ 8 : Nat) : Int) = 97 + x from by omega]
        clear x1 hb6 hc6
        go_wp2_with (at_builtin; refine wpList_append_own _ rfl _ _ 22 rfl B 5 i0 (.int .u8 0) 1 1 Try.underlying22 hi hz0 hz1 hz2 rfl (by decide) _ _ _ rfl (HO6.out.alloc _) ⟨w6.heap.size, 0, none⟩ 1 1 [.int .u8 (97 + x)] rfl rfl ?c1 ?c2 ?c3 ?c4 ?c5 ?_)
        case c1 =>
          intro j u hj
          match j, hj with
          | 0, hj => simp at hj; subst hj; simp [Addr.add]
        case c2 => intro u hu; simp at hu; subst hu; rfl
        case c3 => have := HL.out; unfold maxLen; omega
        case c4 => have := HL.out; omega
        case c5 => have := own_lt HO6.out HV.out; simp; omega
        intro v' w7 hown7 hgr7 hnil7
        have HO7 : Hid (w7.ownsRow B 5 1 v' (l ++ [UInt8.ofNat (97 + x).toNat]).length ((l ++ [UInt8.ofNat (97 + x).toNat]).map (fun b => Value.int .u8 (b.toNat : Int)))) := by
          show World.ownsRow _ _ _ _ _ _ _
          rw [List.length_append, List.map_append, List.map_singleton, ← HX.out]
          exact hown7
        have HV7 : Hid (v' ≠ .slice none 0 0) := fun e => by first | exact hnil7 e | exact HV.out (hnil7.1 e).1
        have HB7 : Hid (Besides C w w7) := (HB6.out.alloc _).grown hgr7 (fun k hk => Nat.le_trans HBw.out (HO6.out.lt k hk).1)
        have HC7 : Hid (CodesOk w7 C) := (HC6.out.below ((Below.refl _ _).alloc (Nat.le_refl _) _) HC6.out.lt).below (B := C + 1) ((Below.refl _ _).grown hgr7 (by have := HC6.out.lt; simp; omega) (fun k hk => Nat.lt_of_lt_of_le HCB.out (HO6.out.lt k hk).1)) (Nat.lt_succ_self _)
        clear hown7 hgr7 hnil7
        have hkw : IntKind.i64.wrap ((k : Int) + 1) = (k : Int) + 1 := IntWalk.i64_in _ (by omega)
        go_wp2_with fail
        go_roundw
        case rel => exact ⟨k + 1, _, by omega, rfl, by rw [List.length_append, HL.out]; rfl, HV7.out, HO7.out, HB7.out, HC7.out⟩
        case measure => simp [intOf]; omega
      · have hcv := conv_own _ _ _ _ HO.out HV.out
        go_wp2_with fail
        go_ret
        exact ⟨_, rfl, by show l.toArray.size ≤ 13; have := HL.out; simp; omega, HBr.out, HCr.out⟩
  · have h0b : (m == 0) = false := by rw [beq_eq_false_iff_ne]; exact h0
    clear h0
    obtain ⟨n, rfl⟩ := Int.eq_ofNat_of_zero_le n0
    have hn : n ≤ 13 := by omega
    clear n1 n0
    go_wp2_with (refine wpList_make_own _ rfl _ _ 22 rfl w3.heap.size 5 i0 (.int .u8 0) 1 Try.underlying22 hi hz0 hz1 .i64 .i64 _ n rfl rfl rfl ?m1 ?m2 ?m3 ?_)
    case m1 => rw [hz2]; omega
    case m2 => unfold maxLen; omega
    case m3 => exact Nat.le_refl _
    intro w5 hown5 hgr5
    have HB5 : Hid (Besides C w w5) := HB3.out.trans (Besides.of_grown hgr5)
    have HC5 : Hid (CodesOk w5 C) := HC3.out.below (Below.of_grown hgr5) HC3.out.lt
    have HBw : Hid (w.heap.size ≤ w3.heap.size) := HB3.out.size
    have HCB : Hid (C < w3.heap.size) := HC3.out.lt
    have HO5 := Lib.hid hown5
    clear hown5 hgr5
    generalize w3.heap.size = B at *
    go_wp2_with fail
    go_loopw [4, 5] (fun v i wr => ∃ (k : Nat) (l : List UInt8), k ≤ n ∧ i = .int .i64 k ∧ l.length = k ∧ v ≠ .slice none 0 0 ∧ wr.ownsRow B 5 1 v l.length (l.map (fun b => Value.int .u8 (b.toNat : Int))) ∧ Besides C w wr ∧ CodesOk wr C) (fun _ i _ => n - (intOf i).toNat)
    case atStart => exact ⟨0, [], by omega, rfl, rfl, by simp, HO5.out, HB5.out, HC5.out⟩
    case round =>
      obtain ⟨k, l, hk, rfl, hl, hv, hown, hbr, hcr⟩ := hrel
      have HV := Lib.hid hv
      have HO := Lib.hid hown
      have HBr := Lib.hid hbr
      have HCr := Lib.hid hcr
      have HL := Lib.hid hl
      clear hv hown hbr hcr hl
      by_cases hlt : (k : Int) < (n : Int)
      · go_wp2_with fail
        refine (next_any C 3 _ HCr.out (by omega)).mono ?_
        rintro e w6 ⟨x, rfl, x0, x1, hb6, hc6⟩
        have x2 : x ≤ 2 := by omega
        have HO6 := Lib.hid (own_besides HO.out hb6 HCB.out)
        have HB6 := Lib.hid (HBr.out.trans hb6)
        have HC6 := Lib.hid hc6
        have hwa : IntKind.i64.wrap (97 + x) = 97 + x := IntWalk.i64_in _ (by omega)
        have hwb : IntKind.u8.wrap (97 + x) = 97 + x := IntWalk.u8_in _ (by omega)
        have HX : Hid (Value.int .u8 (97 + x) = Value.int .u8 (((UInt8.ofNat (97 + x).toNat).toNat : Nat) : Int)) := by
          show _ = _
          rw [UInt8.toNat_ofNat', show (((97 + x).toNat % 2 ^ 8 : Nat) : Int) = 97 + x from by omega]
        clear x1 hb6 hc6
        go_wp2_with (at_builtin; refine wpList_append_own _ rfl _ _ 22 rfl B 5 i0 (.int .u8 0) 1 1 Try.underlying22 hi hz0 hz1 hz2 rfl (by decide) _ _ _ rfl (HO6.out.alloc _) ⟨w6.heap.size, 0, none⟩ 1 1 [.int .u8 (97 + x)] rfl rfl ?c1 ?c2 ?c3 ?c4 ?c5 ?_)
        case c1 =>
          intro j u hj
          match j, hj with
          | 0, hj => simp at hj; subst hj; simp [Addr.add]
        case c2 => intro u hu; simp at hu; subst hu; rfl
        case c3 => have := HL.out; unfold maxLen; omega
        case c4 => have := HL.out; omega
        case c5 => have := own_lt HO6.out HV.out; simp; omega
        intro v' w7 hown7 hgr7 hnil7
        have HO7 : Hid (w7.ownsRow B 5 1 v' (l ++ [UInt8.ofNat (97 + x).toNat]).length ((l ++ [UInt8.ofNat (97 + x).toNat]).map (fun b => Value.int .u8 (b.toNat : Int)))) := by
          show World.ownsRow _ _ _ _ _ _ _
          rw [List.length_append, List.map_append, List.map_singleton, ← HX.out]
          exact hown7
        have HV7 : Hid (v' ≠ .slice none 0 0) := fun e => by first | exact hnil7 e | exact HV.out (hnil7.1 e).1
        have HB7 : Hid (Besides C w w7) := (HB6.out.alloc _).grown hgr7 (fun k hk => Nat.le_trans HBw.out (HO6.out.lt k hk).1)
        have HC7 : Hid (CodesOk w7 C) := (HC6.out.below ((Below.refl _ _).alloc (Nat.le_refl _) _) HC6.out.lt).below (B := C + 1) ((Below.refl _ _).grown hgr7 (by have := HC6.out.lt; simp; omega) (fun k hk => Nat.lt_of_lt_of_le HCB.out (HO6.out.lt k hk).1)) (Nat.lt_succ_self _)
        clear hown7 hgr7 hnil7
        have hkw : IntKind.i64.wrap ((k : Int) + 1) = (k : Int) + 1 := IntWalk.i64_in _ (by omega)
        go_wp2_with fail
        go_roundw
        case rel => exact ⟨k + 1, _, by omega, rfl, by rw [List.length_append, HL.out]; rfl, HV7.out, HO7.out, HB7.out, HC7.out⟩
        case measure => simp [intOf]; omega
      · have hcv := conv_own _ _ _ _ HO.out HV.out
        go_wp2_with fail
        go_ret
        exact ⟨_, rfl, by show l.toArray.size ≤ 13; have := HL.out; simp; omega, HBr.out, HCr.out⟩
end Go.Proofs.Ytgljhfofikjbdaa
/- the choices of the drawing package: Cell -/
namespace Go.Proofs.Ytgljhfofikjbdaa
open Go.RowKit

/-- what Cell leaves: some valid cell -/
def CellPost (C : Nat) (w : World) (e : Ending) (w' : World) : Prop :=
  ∃ c : Cl, e = .returned (clV c) ∧ cellOkB c = true ∧ Besides C w w' ∧ CodesOk w' C
theorem info_cell : (Try.prog.info? 24).map (·.size) = some 2 := by kernel_rfl
theorem oneCell_cell (b : Bool) (s : ByteArray) : (#[Value.bool b, Value.string s]).all (·.oneCell') = true := by kernel_rfl
theorem under_cell : ∃ fs, Try.prog.underlying 24 = some (.struct fs) := ⟨_, Try.underlying24⟩
set_option maxHeartbeats 1000000 in
theorem cell_any (C : Nat) (w : World) (h : CodesOk w C) :
    Calls Try.prog 38 #[.pointer (some ⟨C, 0, none⟩)] w (CellPost C w) := by
  have HK := Lib.hid h
  clear h
  go_enter Try.func38, Try.ntmps38
  go_wp2_with fail
  refine (next_any C 3 _ (HK.out.below ((Below.refl _ _).alloc (Nat.le_refl _) _) HK.out.lt) (by omega)).mono ?_
  rintro e w2 ⟨n, rfl, n0, n1, hb2, hc2⟩
  have HB2 := Lib.hid (((Besides.refl C w).alloc _).trans hb2)
  have HC2 := Lib.hid hc2
  have HCl := Lib.hid HK.out.lt
  have hne : w.heap.size ≠ C := by have := HK.out.lt; omega
  have hlt0 : w.heap.size < (w.alloc (.cells #[.bool false, .string ⟨#[]⟩] 24)).heap.size := by simp
  have HG2 : Hid (w2.heap[w.heap.size]? = some (.cells #[.bool false, .string ⟨#[]⟩] 24 (0, 0))) := (hb2.block _ hlt0 hne).trans (heap_alloc_last w _)
  have hlt2 : w.heap.size < w2.heap.size := Nat.lt_of_lt_of_le hlt0 hb2.size
  obtain ⟨fs, hu⟩ := under_cell
  have HU := Lib.hid hu
  clear hu
  have HN := Lib.hid hne
  clear n1 hlt0 hb2 hc2 hne
  by_cases h0 : n = 0
  · have h0b : (n == 0) = true := by rw [h0]; rfl
    clear h0
    go_wp2_with (refine wpList_store_row rfl 24 _ _ rfl w.heap.size #[.bool false, .string ⟨#[]⟩] rfl rfl 24 #[.bool false, .string ⟨#[]⟩] HG2.out info_cell rfl (oneCell_cell _ _) ?_)
    refine bodyPost_ret (v := .agg #[.bool false, .string ⟨#[]⟩]) (results_cell_row Try.results38 _ _ w.heap.size 24 _ (0, 0) _ rfl (setRow_heap _ _ _ _ _ _ HG2.out) HU.out rfl info_cell) rfl ⟨⟨false, ⟨#[]⟩⟩, rfl, by decide, ?_, ?_⟩
    · exact HB2.out.then_below (below_setRow (Below.refl _ _) (Nat.le_refl _) _)
    · exact HC2.out.below (below_setRow (Below.refl _ _) (Nat.le_refl _) _) HCl.out
  · have h0b : (n == 0) = false := by rw [beq_eq_false_iff_ne]; exact h0
    clear h0
    go_wp2_with fail
    refine (data_any C _ HC2.out).mono ?_
    rintro e w3 ⟨s, rfl, hs, hb3, hc3⟩
    have HG3 : Hid (w3.heap[w.heap.size]? = some (.cells #[.bool false, .string ⟨#[]⟩] 24 (0, 0))) := (hb3.block _ hlt2 HN.out).trans HG2.out
    have HB3 := Lib.hid (HB2.out.trans hb3)
    have HC3 := Lib.hid hc3
    clear hb3 hc3 hlt2
    by_cases h12 : s.size ≤ 12
    · have hi12 : ¬ (12 < (s.size : Int)) := by omega
      have hi12' : (s.size : Int) ≤ 12 := by omega
      clear h12
      go_wp2_with (refine wpList_store_row rfl 24 _ _ rfl w.heap.size #[.bool true, .string s] rfl rfl 24 #[.bool false, .string ⟨#[]⟩] HG3.out info_cell rfl (oneCell_cell _ _) ?_)
      refine bodyPost_ret (v := .agg #[.bool true, .string s]) (results_cell_row Try.results38 _ _ w.heap.size 24 _ (0, 0) _ rfl (setRow_heap _ _ _ _ _ _ HG3.out) HU.out rfl info_cell) rfl ⟨⟨true, s⟩, rfl, by simp [cellOkB]; omega, ?_, ?_⟩
      · exact HB3.out.then_below (below_setRow (Below.refl _ _) (Nat.le_refl _) _)
      · exact HC3.out.below (below_setRow (Below.refl _ _) (Nat.le_refl _) _) HCl.out
    · have hi12 : 12 < (s.size : Int) := by omega
      have hi12' : (12 : Int) ≤ s.size := by omega
      clear h12
      go_wp2_with (refine wpList_store_row rfl 24 _ _ rfl w.heap.size #[.bool true, .string (s.extract 0 12)] rfl rfl 24 #[.bool false, .string ⟨#[]⟩] HG3.out info_cell rfl (oneCell_cell _ _) ?_)
      refine bodyPost_ret (v := .agg #[.bool true, .string (s.extract 0 12)]) (results_cell_row Try.results38 _ _ w.heap.size 24 _ (0, 0) _ rfl (setRow_heap _ _ _ _ _ _ HG3.out) HU.out rfl info_cell) rfl ⟨⟨true, (s.extract 0 12)⟩, rfl, by simp [cellOkB, ByteArray.size_extract]; omega, ?_, ?_⟩
      · exact HB3.out.then_below (below_setRow (Below.refl _ _) (Nat.le_refl _) _)
      · exact HC3.out.below (below_setRow (Below.refl _ _) (Nat.le_refl _) _) HCl.out
end Go.Proofs.Ytgljhfofikjbdaa
/- changes as values -/
namespace Go.Proofs.Ytgljhfofikjbdaa
open Go.RowKit

structure Chg where
  page : Int
  slot : Int
  before : Cl
  after : Cl
def chCells (c : Chg) : List Value := [.int .i64 c.page, .int .i64 c.slot, .bool c.before.set, .string c.before.data, .bool c.after.set, .string c.after.data]
/-- a change that a value of the program can be -/
structure GoodCh (c : Chg) : Prop where
  page : (Lit.int .i64 c.page).wf = true
  slot : (Lit.int .i64 c.slot).wf = true
  before : c.before.data.size ≤ maxLen
  after : c.after.data.size ≤ maxLen
def chOkB (c : Chg) : Bool := decide (0 ≤ c.page) && (decide (c.page < 64) && (decide (0 ≤ c.slot) && (decide (c.slot < 16) && (cellOkB c.before && cellOkB c.after))))
def chNil : Chg := ⟨0, 0, emptyCl, emptyCl⟩
def invR (c : Chg) : Chg := ⟨c.page, c.slot, c.after, c.before⟩
noncomputable def joinR (a b : Chg) : Chg × Int :=
  if (chOkB a && chOkB b) = false then (chNil, 22) else if sameV (a.page, a.slot) (b.page, b.slot) = false then (chNil, 6) else if sameV b.before a.after = false then (chNil, 20) else (⟨a.page, a.slot, a.before, b.after⟩, 0)
theorem cells_length (c : Chg) : (chCells c).length = 6 := rfl
theorem oneCell_ch (c : Chg) : ((chCells c).toArray).all (·.oneCell') = true := by kernel_rfl
theorem oneCell_cl (c : Cl) : ((clCells c).toArray).all (·.oneCell') = true := by kernel_rfl
theorem info_ch : (Try.prog.info? 26).map (·.size) = some 6 := by kernel_rfl
theorem under_ch : ∃ fs, Try.prog.underlying 26 = some (.struct fs) := ⟨_, Try.underlying26⟩
theorem cellOk_small {c : Cl} (h : cellOkB c = true) : c.data.size ≤ 12 := by unfold cellOkB at h; simp at h; exact h.1
theorem small_le {n : Nat} (h : n ≤ 13) : n ≤ maxLen := by unfold maxLen; omega
theorem wf_of {n : Int} (h0 : -9223372036854775808 ≤ n) (h1 : n ≤ 9223372036854775807) : (Lit.int .i64 n).wf = true := by
  simp [Lit.wf, IntKind.min, IntKind.max, IntKind.bits, IntKind.signed]; omega
theorem wf_bd {n : Int} (h : (Lit.int .i64 n).wf = true) : -9223372036854775808 ≤ n ∧ n ≤ 9223372036854775807 := by
  simpa [Lit.wf, IntKind.min, IntKind.max, IntKind.bits, IntKind.signed] using h
theorem chOk_parts {c : Chg} (h : chOkB c = true) : 0 ≤ c.page ∧ c.page < 64 ∧ 0 ≤ c.slot ∧ c.slot < 16 ∧ cellOkB c.before = true ∧ cellOkB c.after = true := by
  unfold chOkB at h
  simp at h
  exact h
theorem chOk_of {c : Chg} (h0 : 0 ≤ c.page) (h1 : c.page < 64) (h2 : 0 ≤ c.slot) (h3 : c.slot < 16) (h4 : cellOkB c.before = true) (h5 : cellOkB c.after = true) : chOkB c = true := by
  unfold chOkB
  simp [h0, h1, h2, h3, h4, h5]
theorem chOk_good {c : Chg} (h : chOkB c = true) : GoodCh c := by
  obtain ⟨h0, h1, h2, h3, h4, h5⟩ := chOk_parts h
  exact ⟨wf_of (by omega) (by omega), wf_of (by omega) (by omega), small_le (by have := cellOk_small h4; omega), small_le (by have := cellOk_small h5; omega)⟩
theorem inv_ok (c : Chg) : chOkB (invR c) = chOkB c := by
  unfold chOkB invR
  cases cellOkB c.before <;> cases cellOkB c.after <;> simp
theorem inv_good {c : Chg} (h : GoodCh c) : GoodCh (invR c) := ⟨h.page, h.slot, h.after, h.before⟩
theorem alloc_ch (w : World) : Sem.run Try.prog (Instr.alloc 26 true (.tuple #[])) w = .ok (.pointer (some ⟨w.heap.size, 0, none⟩)) (w.alloc (.cells (chCells chNil).toArray 26)) := by kernel_rfl
theorem alloc_cl (w : World) : Sem.run Try.prog (Instr.alloc 24 true (.tuple #[])) w = .ok (.pointer (some ⟨w.heap.size, 0, none⟩)) (w.alloc (.cells (clCells emptyCl).toArray 24)) := by kernel_rfl
theorem info_cl : (Try.prog.info? 24).map (·.size) = some 2 := by kernel_rfl
theorem all_one {cs : List Value} (h : cs.toArray.all (·.oneCell') = true) : ∀ u ∈ cs, u.oneCell' = true := by
  rw [List.all_toArray, List.all_eq_true] at h
  exact h
def chLits (c : Chg) : List Lit := [.int .i64 c.page, .int .i64 c.slot, .bool c.before.set, .string c.before.data.data.toList, .bool c.after.set, .string c.after.data.data.toList]
theorem clLits_iff (a b : Cl) : clLits a = clLits b ↔ a = b := by
  constructor
  · intro h
    simp only [clLits, List.cons.injEq, Lit.bool.injEq, Lit.string.injEq, and_true] at h
    obtain ⟨s, d⟩ := a
    obtain ⟨s', d'⟩ := b
    simp only at h
    rw [h.1, str_eq h.2]
  · rintro rfl; rfl
theorem chLits_iff (a b : Chg) : chLits a = chLits b ↔ a = b := by
  constructor
  · intro h
    simp only [chLits, List.cons.injEq, Lit.bool.injEq, Lit.string.injEq, Lit.int.injEq, true_and, and_true] at h
    obtain ⟨h1, h2, h3, h4, h5, h6⟩ := h
    obtain ⟨p, s, ⟨b1, b2⟩, ⟨a1, a2⟩⟩ := a
    obtain ⟨p', s', ⟨b1', b2'⟩, ⟨a1', a2'⟩⟩ := b
    simp only at h1 h2 h3 h4 h5 h6
    rw [h1, h2, h3, str_eq h4, h5, str_eq h6]
  · rintro rfl; rfl
theorem cellsOf_ch : Try.prog.cellsOf 26 = 6 := by kernel_rfl
theorem lits_ch (d : Nat) (c : Chg) (h : GoodCh c) : Try.prog.keyLits (d + 3) 26 (chCells c) = some (chLits c) := by
  rw [show d + 3 = (d + 2) + 1 from rfl]
  unfold Program.keyLits
  rw [Try.underlying26]
  simp only
  rw [if_pos ⟨by rw [cellsOf_ch]; rfl, by kernel_rfl⟩]
  have h1 := lits_int (d + 1) c.page h.page
  have h2 := lits_int (d + 1) c.slot h.slot
  have h3 := lits_cell d c.before h.before
  have h4 := lits_cell d c.after h.after
  simp only [clCells] at h3 h4
  unfold chCells
  simp only [List.mapM_cons, List.mapM_nil, cellsOf_int, cellsOf_cell, List.drop_zero, List.take_succ_cons, List.take_zero, List.drop_succ_cons, h1, h2, h3, h4]
  simp [chLits, clLits, List.flatten, pure, bind]
theorem ch_formed (c : Chg) : (Value.agg (chCells c).toArray).formed Try.prog 26 = true := by
  unfold Value.formed
  rw [Try.underlying26]
  simp only
  rw [List.size_toArray, cells_length, cellsOf_ch]
  rfl
theorem cl_formed (c : Cl) : (Value.agg (clCells c).toArray).formed Try.prog 24 = true := by
  unfold Value.formed
  rw [Try.underlying24]
  simp only
  rw [List.size_toArray, cellsOf_cell]
  rfl
theorem equal_ch (a b : Chg) (ha : GoodCh a) (hb : GoodCh b) (w : World) : Sem.run Try.prog (Op.equal 26 (.agg (chCells a).toArray) (.agg (chCells b).toArray)) w = .ok (sameV a b) w :=
  equal_lits 26 a b _ _ _ _ (by kernel_rfl) (ch_formed a) (ch_formed b) (lits_ch 1 a ha) (lits_ch 1 b hb) (chLits_iff a b) w
theorem equal_cl (a b : Cl) (ha : a.data.size ≤ maxLen) (hb : b.data.size ≤ maxLen) (w : World) : Sem.run Try.prog (Op.equal 24 (.agg (clCells a).toArray) (.agg (clCells b).toArray)) w = .ok (sameV a b) w :=
  equal_lits 24 a b _ _ _ _ (by kernel_rfl) (cl_formed a) (cl_formed b) (lits_cell 2 a ha) (lits_cell 2 b hb) (clLits_iff a b) w
theorem nil_good : GoodCh chNil := ⟨by decide, by decide, by decide, by decide⟩
theorem join_good {a b : Chg} (ha : GoodCh a) (hb : GoodCh b) : GoodCh (joinR a b).1 := by
  unfold joinR
  split
  · exact nil_good
  · split
    · exact nil_good
    · split
      · exact nil_good
      · exact ⟨ha.page, ha.slot, ha.before, hb.after⟩
end Go.Proofs.Ytgljhfofikjbdaa
/- entries as values, which of them are valid, and how they are compared -/
namespace Go.Proofs.Ytgljhfofikjbdaa
open Go.RowKit
set_option maxRecDepth 20000

structure Ent where
  lsn : Int
  kind : Int
  tx : Int
  ptx : Int
  ppg : Int
  ref : Int
  ch : Chg
  blob : ByteArray
def enCells (e : Ent) : List Value := [.int .i64 e.lsn, .int .i64 e.kind, .int .i64 e.tx, .int .i64 e.ptx, .int .i64 e.ppg, .int .i64 e.ref, .int .i64 e.ch.page, .int .i64 e.ch.slot, .bool e.ch.before.set, .string e.ch.before.data, .bool e.ch.after.set, .string e.ch.after.data, .string e.blob]
/-- an entry that a value of the program can be -/
structure GoodEn (e : Ent) : Prop where
  lsn : (Lit.int .i64 e.lsn).wf = true
  kind : (Lit.int .i64 e.kind).wf = true
  tx : (Lit.int .i64 e.tx).wf = true
  ptx : (Lit.int .i64 e.ptx).wf = true
  ppg : (Lit.int .i64 e.ppg).wf = true
  ref : (Lit.int .i64 e.ref).wf = true
  ch : GoodCh e.ch
  blob : e.blob.size ≤ maxLen
def emptyS : ByteArray := ⟨#[]⟩
def enNil : Ent := ⟨0, 0, 0, 0, 0, 0, chNil, emptyS⟩
theorem enCells_length (e : Ent) : (enCells e).length = 13 := rfl
theorem oneCell_en (e : Ent) : ((enCells e).toArray).all (·.oneCell') = true := by kernel_rfl
theorem info_en : (Try.prog.info? 28).map (·.size) = some 13 := by kernel_rfl
theorem under_en : ∃ fs, Try.prog.underlying 28 = some (.struct fs) := ⟨_, Try.underlying28⟩
theorem alloc_en (w : World) : Sem.run Try.prog (Instr.alloc 28 true (.tuple #[])) w = .ok (.pointer (some ⟨w.heap.size, 0, none⟩)) (w.alloc (.cells (enCells enNil).toArray 28)) := by kernel_rfl
theorem enNil_good : GoodEn enNil := ⟨by decide, by decide, by decide, by decide, by decide, by decide, nil_good, by decide⟩
/-! equality -/
def enLits (e : Ent) : List Lit := [.int .i64 e.lsn, .int .i64 e.kind, .int .i64 e.tx, .int .i64 e.ptx, .int .i64 e.ppg, .int .i64 e.ref, .int .i64 e.ch.page, .int .i64 e.ch.slot, .bool e.ch.before.set, .string e.ch.before.data.data.toList, .bool e.ch.after.set, .string e.ch.after.data.data.toList, .string e.blob.data.toList]
theorem enLits_iff (a b : Ent) : enLits a = enLits b ↔ a = b := by
  constructor
  · intro h
    simp only [enLits, List.cons.injEq, Lit.bool.injEq, Lit.string.injEq, Lit.int.injEq, true_and, and_true] at h
    obtain ⟨h1, h2, h3, h4, h5, h6, h7, h8, h9, h10, h11, h12, h13⟩ := h
    obtain ⟨a1, a2, a3, a4, a5, a6, ⟨a7, a8, ⟨a9, a10⟩, ⟨a11, a12⟩⟩, a13⟩ := a
    obtain ⟨b1, b2, b3, b4, b5, b6, ⟨b7, b8, ⟨b9, b10⟩, ⟨b11, b12⟩⟩, b13⟩ := b
    simp only at h1 h2 h3 h4 h5 h6 h7 h8 h9 h10 h11 h12 h13
    rw [h1, h2, h3, h4, h5, h6, h7, h8, h9, str_eq h10, h11, str_eq h12, str_eq h13]
  · rintro rfl; rfl
theorem cellsOf_en : Try.prog.cellsOf 28 = 13 := by kernel_rfl
theorem lits_en (d : Nat) (e : Ent) (h : GoodEn e) : Try.prog.keyLits (d + 4) 28 (enCells e) = some (enLits e) := by
  rw [show d + 4 = (d + 3) + 1 from rfl]
  unfold Program.keyLits
  rw [Try.underlying28]
  simp only
  rw [if_pos ⟨by rw [cellsOf_en]; rfl, by kernel_rfl⟩]
  have h1 := lits_int (d + 2) e.lsn h.lsn
  have h2 := lits_int (d + 2) e.kind h.kind
  have h3 := lits_int (d + 2) e.tx h.tx
  have h4 := lits_int (d + 2) e.ptx h.ptx
  have h5 := lits_int (d + 2) e.ppg h.ppg
  have h6 := lits_int (d + 2) e.ref h.ref
  have h7 := lits_ch d e.ch h.ch
  have h8 := lits_string (d + 2) e.blob h.blob
  simp only [chCells] at h7
  unfold enCells
  simp only [List.mapM_cons, List.mapM_nil, cellsOf_int, cellsOf_ch, cellsOf_string, List.drop_zero, List.take_succ_cons, List.take_zero, List.drop_succ_cons, h1, h2, h3, h4, h5, h6, h7, h8]
  simp [enLits, chLits, List.flatten, pure, bind]
theorem en_formed (e : Ent) : (Value.agg (enCells e).toArray).formed Try.prog 28 = true := by
  unfold Value.formed
  rw [Try.underlying28]
  simp only
  rw [List.size_toArray, enCells_length, cellsOf_en]
  rfl
theorem equal_en (a b : Ent) (ha : GoodEn a) (hb : GoodEn b) (w : World) : Sem.run Try.prog (Op.equal 28 (.agg (enCells a).toArray) (.agg (enCells b).toArray)) w = .ok (sameV a b) w :=
  equal_lits 28 a b _ _ _ _ (by kernel_rfl) (en_formed a) (en_formed b) (lits_en 0 a ha) (lits_en 0 b hb) (enLits_iff a b) w
/-! which are valid -/
def isTxB (n : Int) : Bool := decide (1 ≤ n) && decide (n ≤ 1073741824)
def zeroB (n : Int) : Bool := decide (n = 0)
def posB (n : Int) : Bool := decide (0 < n)
def anyB (_ : Int) : Bool := true
def noRefB (r _ : Int) : Bool := decide (r = 0)
def anyRefB (_ _ : Int) : Bool := true
def upB (r p : Int) : Bool := decide (1 ≤ r) && decide (r ≤ p)
noncomputable def noChB (c : Chg) : Bool := sameV c chNil
noncomputable def aloneB (c : Chg) : Bool := sameV c ⟨c.page, 0, emptyCl, emptyCl⟩ && chOkB c
def noBlobB (s : ByteArray) : Bool := decide (s.size = 0)
def blobB (s : ByteArray) : Bool := decide (s.size ≤ 8192)
structure RuleF where
  p0 : Int → Bool
  p1 : Int → Bool
  p2 : Int → Bool
  p3 : Int → Int → Bool
  p4 : Chg → Bool
  p5 : ByteArray → Bool
noncomputable def markF : RuleF := ⟨isTxB, posB, zeroB, noRefB, noChB, noBlobB⟩
noncomputable def textF : RuleF := ⟨zeroB, zeroB, zeroB, noRefB, noChB, blobB⟩
noncomputable def ruleF (k : Int) : RuleF :=
  if k = 1 then ⟨isTxB, anyB, anyB, noRefB, chOkB, noBlobB⟩
  else if k = 2 then ⟨isTxB, posB, anyB, upB, chOkB, noBlobB⟩
  else if k = 3 ∨ k = 4 ∨ k = 5 then markF
  else if k = 7 then ⟨zeroB, zeroB, zeroB, anyRefB, aloneB, noBlobB⟩
  else textF
def kindB (k : Int) : Bool := decide (1 ≤ k) && decide (k ≤ 8)
def befB (n l : Int) : Bool := decide (0 ≤ n) && decide (n < l)
noncomputable def entOkB (e : Ent) : Bool :=
  kindB e.kind && (decide (1 ≤ e.lsn) && (decide (e.lsn ≤ 1099511627776) && (befB e.ptx e.lsn && (befB e.ppg e.lsn && (befB e.ref e.lsn &&
    ((ruleF e.kind).p0 e.tx && ((ruleF e.kind).p1 e.ptx && ((ruleF e.kind).p2 e.ppg && ((ruleF e.kind).p3 e.ref e.ptx && ((ruleF e.kind).p4 e.ch && (ruleF e.kind).p5 e.blob))))))))))
/-- the reference's shape -/
def shapeE (e : Ent) : Ent :=
  if e.kind = 1 then ⟨e.lsn, e.kind, e.tx, e.ptx, e.ppg, 0, e.ch, emptyS⟩
  else if e.kind = 2 then ⟨e.lsn, e.kind, e.tx, e.ptx, e.ppg, e.ref, e.ch, emptyS⟩
  else if e.kind = 3 ∨ e.kind = 4 ∨ e.kind = 5 then ⟨e.lsn, e.kind, e.tx, e.ptx, 0, 0, chNil, emptyS⟩
  else if e.kind = 6 ∨ e.kind = 8 then ⟨e.lsn, e.kind, 0, 0, 0, 0, chNil, e.blob⟩
  else if e.kind = 7 then ⟨e.lsn, e.kind, 0, 0, 0, e.ref, ⟨e.ch.page, 0, emptyCl, emptyCl⟩, emptyS⟩
  else ⟨e.lsn, e.kind, 0, 0, 0, 0, chNil, emptyS⟩
def shapeB (e : Ent) : Bool :=
  if e.kind = 1 then chOkB e.ch && isTxB e.tx
  else if e.kind = 2 then chOkB e.ch && (posB e.ptx && (upB e.ref e.ptx && isTxB e.tx))
  else if e.kind = 3 ∨ e.kind = 4 ∨ e.kind = 5 then isTxB e.tx && posB e.ptx
  else if e.kind = 6 ∨ e.kind = 8 then blobB e.blob
  else if e.kind = 7 then decide (0 ≤ e.ch.page) && decide (e.ch.page < 64)
  else false
theorem size_zero {s : ByteArray} : s.size = 0 ↔ s = emptyS := by
  constructor
  · intro h
    apply str_eq
    rw [show emptyS.data.toList = [] from rfl]
    exact List.eq_nil_of_length_eq_zero (by rw [size_list]; exact h)
  · rintro rfl; rfl
theorem alone_ok {p : Int} : chOkB ⟨p, 0, emptyCl, emptyCl⟩ = (decide (0 ≤ p) && decide (p < 64)) := by
  unfold chOkB
  have h : cellOkB emptyCl = true := by decide
  simp [h]
theorem ent_mk (e : Ent) (l k t p g r : Int) (c : Chg) (b : ByteArray) : ((⟨l, k, t, p, g, r, c, b⟩ : Ent) = e) ↔ (l = e.lsn ∧ k = e.kind ∧ t = e.tx ∧ p = e.ptx ∧ g = e.ppg ∧ r = e.ref ∧ c = e.ch ∧ b = e.blob) := by
  constructor
  · rintro rfl; exact ⟨rfl, rfl, rfl, rfl, rfl, rfl, rfl, rfl⟩
  · rintro ⟨rfl, rfl, rfl, rfl, rfl, rfl, rfl, rfl⟩; rfl
/-- the reference's check is the program's -/
theorem ent_ok_ref (e : Ent) : (shapeB e && (sameV (shapeE e) e && (decide (1 ≤ e.lsn) && (decide (e.lsn ≤ 1099511627776) && (befB e.ptx e.lsn && (befB e.ppg e.lsn && befB e.ref e.lsn)))))) = entOkB e := by
  have hk : e.kind = 1 ∨ e.kind = 2 ∨ e.kind = 3 ∨ e.kind = 4 ∨ e.kind = 5 ∨ e.kind = 6 ∨ e.kind = 7 ∨ e.kind = 8 ∨ (e.kind < 1 ∨ 8 < e.kind) := by omega
  rw [Bool.eq_iff_iff]
  simp only [Bool.and_eq_true, decide_eq_true_eq, sameV_iff, entOkB]
  rcases hk with h | h | h | h | h | h | h | h | h
  · simp only [shapeB, shapeE, ruleF, h, if_true, ent_mk, kindB, anyB, noRefB, noBlobB, Bool.and_eq_true, decide_eq_true_eq, size_zero]
    simp only [show (1 : Int) ≤ 1 from by decide, show (1 : Int) ≤ 8 from by decide, true_and]
    constructor
    · rintro ⟨⟨a, b⟩, c, d⟩; exact ⟨d.1, d.2.1, d.2.2.1, d.2.2.2.1, d.2.2.2.2, b, c.1.symm, a, c.2.symm⟩
    · rintro ⟨a, b, c, d, f, g, h, i, j⟩; exact ⟨⟨i, g⟩, ⟨h.symm, j.symm⟩, a, b, c, d, f⟩
  · simp only [shapeB, shapeE, ruleF, h, ent_mk, kindB, anyB, upB, noBlobB, Bool.and_eq_true, decide_eq_true_eq, size_zero, Int.reduceEq, or_true, true_or, or_false, false_or, or_self, reduceIte, if_false, if_true]
    simp only [show (1 : Int) ≤ 2 from by decide, show (2 : Int) ≤ 8 from by decide, true_and]
    constructor
    · rintro ⟨⟨a, b, c, d⟩, f, g⟩; exact ⟨g.1, g.2.1, g.2.2.1, g.2.2.2.1, g.2.2.2.2, d, b, c, a, f.symm⟩
    · rintro ⟨a, b, c, d, f, g, h, i, j, k⟩; exact ⟨⟨j, h, i, g⟩, k.symm, a, b, c, d, f⟩
  · simp only [shapeB, shapeE, ruleF, markF, h, ent_mk, kindB, zeroB, noRefB, noChB, noBlobB, Bool.and_eq_true, decide_eq_true_eq, size_zero, sameV_iff, Int.reduceEq, or_true, true_or, or_false, false_or, or_self, reduceIte, if_false, if_true]
    simp only [show (1 : Int) ≤ 3 from by decide, show (3 : Int) ≤ 8 from by decide, true_and]
    constructor
    · rintro ⟨⟨a, b⟩, ⟨c, d, f, g⟩, h⟩; exact ⟨h.1, h.2.1, h.2.2.1, h.2.2.2.1, h.2.2.2.2, a, b, c.symm, d.symm, f.symm, g.symm⟩
    · rintro ⟨a, b, c, d, f, g, h, i, j, k, l⟩; exact ⟨⟨g, h⟩, ⟨i.symm, j.symm, k.symm, l.symm⟩, a, b, c, d, f⟩
  · simp only [shapeB, shapeE, ruleF, markF, h, ent_mk, kindB, zeroB, noRefB, noChB, noBlobB, Bool.and_eq_true, decide_eq_true_eq, size_zero, sameV_iff, Int.reduceEq, or_true, true_or, or_false, false_or, or_self, reduceIte, if_false, if_true]
    simp only [show (1 : Int) ≤ 4 from by decide, show (4 : Int) ≤ 8 from by decide, true_and]
    constructor
    · rintro ⟨⟨a, b⟩, ⟨c, d, f, g⟩, h⟩; exact ⟨h.1, h.2.1, h.2.2.1, h.2.2.2.1, h.2.2.2.2, a, b, c.symm, d.symm, f.symm, g.symm⟩
    · rintro ⟨a, b, c, d, f, g, h, i, j, k, l⟩; exact ⟨⟨g, h⟩, ⟨i.symm, j.symm, k.symm, l.symm⟩, a, b, c, d, f⟩
  · simp only [shapeB, shapeE, ruleF, markF, h, ent_mk, kindB, zeroB, noRefB, noChB, noBlobB, Bool.and_eq_true, decide_eq_true_eq, size_zero, sameV_iff, Int.reduceEq, or_true, true_or, or_false, false_or, or_self, reduceIte, if_false, if_true]
    simp only [show (1 : Int) ≤ 5 from by decide, show (5 : Int) ≤ 8 from by decide, true_and]
    constructor
    · rintro ⟨⟨a, b⟩, ⟨c, d, f, g⟩, h⟩; exact ⟨h.1, h.2.1, h.2.2.1, h.2.2.2.1, h.2.2.2.2, a, b, c.symm, d.symm, f.symm, g.symm⟩
    · rintro ⟨a, b, c, d, f, g, h, i, j, k, l⟩; exact ⟨⟨g, h⟩, ⟨i.symm, j.symm, k.symm, l.symm⟩, a, b, c, d, f⟩
  · simp only [shapeB, shapeE, ruleF, textF, h, ent_mk, kindB, zeroB, noRefB, noChB, blobB, Bool.and_eq_true, decide_eq_true_eq, sameV_iff, Int.reduceEq, or_true, true_or, or_false, false_or, or_self, reduceIte, if_false, if_true]
    simp only [show (1 : Int) ≤ 6 from by decide, show (6 : Int) ≤ 8 from by decide, true_and, and_true]
    constructor
    · rintro ⟨a, ⟨b, c, d, f, g⟩, h⟩; exact ⟨h.1, h.2.1, h.2.2.1, h.2.2.2.1, h.2.2.2.2, b.symm, c.symm, d.symm, f.symm, g.symm, a⟩
    · rintro ⟨a, b, c, d, f, g, h, i, j, k, l⟩; exact ⟨l, ⟨g.symm, h.symm, i.symm, j.symm, k.symm⟩, a, b, c, d, f⟩
  · simp only [shapeB, shapeE, ruleF, h, ent_mk, kindB, zeroB, anyRefB, aloneB, noBlobB, Bool.and_eq_true, decide_eq_true_eq, size_zero, sameV_iff, Int.reduceEq, or_true, true_or, or_false, false_or, or_self, reduceIte, if_false, if_true]
    simp only [show (1 : Int) ≤ 7 from by decide, show (7 : Int) ≤ 8 from by decide, true_and]
    constructor
    · rintro ⟨⟨a, a'⟩, ⟨b, c, d, f, g⟩, h⟩
      refine ⟨h.1, h.2.1, h.2.2.1, h.2.2.2.1, h.2.2.2.2, b.symm, c.symm, d.symm, ⟨f.symm, ?_⟩, g.symm⟩
      rw [← f, alone_ok]
      simp [a, a']
    · rintro ⟨a, b, c, d, f, g, h, i, ⟨j, k⟩, l⟩
      rw [j, alone_ok] at k
      simp at k
      exact ⟨k, ⟨g.symm, h.symm, i.symm, j.symm, l.symm⟩, a, b, c, d, f⟩
  · simp only [shapeB, shapeE, ruleF, textF, h, ent_mk, kindB, zeroB, noRefB, noChB, blobB, Bool.and_eq_true, decide_eq_true_eq, sameV_iff, Int.reduceEq, or_true, true_or, or_false, false_or, or_self, reduceIte, if_false, if_true]
    simp only [show (1 : Int) ≤ 8 from by decide, show (8 : Int) ≤ 8 from by decide, true_and, and_true]
    constructor
    · rintro ⟨a, ⟨b, c, d, f, g⟩, h⟩; exact ⟨h.1, h.2.1, h.2.2.1, h.2.2.2.1, h.2.2.2.2, b.symm, c.symm, d.symm, f.symm, g.symm, a⟩
    · rintro ⟨a, b, c, d, f, g, h, i, j, k, l⟩; exact ⟨l, ⟨g.symm, h.symm, i.symm, j.symm, k.symm⟩, a, b, c, d, f⟩
  · have h1 : shapeB e = false := by
      unfold shapeB
      rw [if_neg (by omega), if_neg (by omega), if_neg (by omega), if_neg (by omega), if_neg (by omega)]
    have h2 : kindB e.kind = false := by unfold kindB; simp; omega
    rw [h1, h2]
    simp
end Go.Proofs.Ytgljhfofikjbdaa
/- what a walk keeps of memory: objects, slices of its own, choices; what was there is as it was -/
namespace Go.Proofs.Ytgljhfofikjbdaa
open Go.RowKit
set_option maxRecDepth 20000

/-- cells that are read: a block, a place in it, what lies there -/
abbrev Rng := Nat × Nat × List Value
def RdIn (W : World) (R : List Rng) : Prop := ∀ r ∈ R, r.1 < W.heap.size ∧ W.rangeAt r.1 r.2.1 r.2.2
theorem RdIn.keep {W W' : World} {R : List Rng} (h : RdIn W R) (hs : W.heap.size ≤ W'.heap.size) (hk : ∀ b ∈ R.map (·.1), W'.heap[b]? = W.heap[b]?) : RdIn W' R := fun r hr => by
  obtain ⟨h1, h2⟩ := h r hr
  refine ⟨Nat.lt_of_lt_of_le h1 hs, fun j u hu => ?_⟩
  rw [World.cell?_of_block (a := ⟨r.1, r.2.1 + j, none⟩) (hk r.1 (List.mem_map.2 ⟨r, hr, rfl⟩))]
  exact h2 j u hu
theorem RdIn.lt {W : World} {R : List Rng} (h : RdIn W R) {b : Nat} (hb : b ∈ R.map (·.1)) : b < W.heap.size := by
  obtain ⟨r, hr, rfl⟩ := List.mem_map.1 hb
  exact (h r hr).1
theorem RdIn.below {W W' : World} {R : List Rng} (h : RdIn W R) (hb : Below W.heap.size W W') : RdIn W' R := h.keep hb.size (fun b hb' => hb.block b (h.lt hb'))
theorem RdIn.sub {W : World} {R S : List Rng} (h : RdIn W R) (hs : ∀ r ∈ S, r ∈ R) : RdIn W S := fun r hr => h r (hs r hr)
theorem RdIn.append {W : World} {R S : List Rng} (h : RdIn W R) (k : RdIn W S) : RdIn W (R ++ S) := fun r hr => (List.mem_append.1 hr).elim (h r) (k r)
theorem RdIn.nil (W : World) : RdIn W [] := fun r hr => by cases hr
/-- a thing in new memory: an object; a slice of the walk's own; choices; and cells that are read, wherever they are -/
inductive Th where
  | ob (b : Nat) (t : TypeId) (cs : List Value)
  | sl (v : Value) (e : TypeId) (z n : Nat) (xs : List Value)
  | cd (C : Nat)
  | rd (R : List Rng)
/-- its block -/
def Th.blk : Th → Option Nat
  | .ob b _ _ => some b
  | .sl v _ _ _ _ => v.ownBlock
  | .cd C => some C
  | .rd _ => none
/-- the blocks that it reads -/
def Th.reads : Th → List Nat
  | .rd R => R.map (·.1)
  | _ => []
/-- it lies in W, in memory from B on -/
def Th.In (B : Nat) (W : World) : Th → Prop
  | .ob b t cs => B ≤ b ∧ W.heap[b]? = some (.cells cs.toArray t (0, 0))
  | .sl v e z n xs => W.ownsRow B e z v n xs
  | .cd C => B ≤ C ∧ CodesOk W C ∧ ∃ a len cap, W.cell? ⟨C, 0, none⟩ = some (.slice a len cap) ∧ (0 < len → ∀ b off, a = some ⟨b, off, none⟩ → b < B)
  | .rd R => RdIn W R
def Th.Apart (x y : Th) : Prop := (∀ b, x.blk = some b → y.blk ≠ some b ∧ b ∉ y.reads) ∧ (∀ b, y.blk = some b → b ∉ x.reads)
theorem Th.In.from {B : Nat} {W : World} {x : Th} (h : x.In B W) {b : Nat} (hb : x.blk = some b) : B ≤ b ∧ b < W.heap.size := by
  cases x with
  | ob c t cs =>
    obtain rfl : c = b := Option.some.inj hb
    exact ⟨h.1, (Array.getElem?_eq_some_iff.1 h.2).1⟩
  | sl v e z n xs => exact World.ownsRow.lt h b hb
  | cd C =>
    obtain rfl : C = b := Option.some.inj hb
    exact ⟨h.1, h.2.1.lt⟩
  | rd R => cases hb
theorem Th.In.reads_lt {B : Nat} {W : World} {x : Th} (h : x.In B W) {b : Nat} (hb : b ∈ x.reads) : b < W.heap.size := by
  cases x with
  | rd R => exact RdIn.lt h hb
  | _ => cases hb
theorem codes_keep {w w' : World} {C B : Nat} (h : Th.In B w (.cd C)) (hs : w.heap.size ≤ w'.heap.size) (hC : w'.heap[C]? = w.heap[C]?) (ho : ∀ k, k < B → w'.heap[k]? = w.heap[k]?) : Th.In B w' (.cd C) := by
  obtain ⟨hB, ⟨a, len, cap, i, h0, h1, h2, h3, h4, h5, h6, h7⟩, a', len', cap', h8, h9⟩ := h
  have cell : ∀ j, w'.cell? ⟨C, j, none⟩ = w.cell? ⟨C, j, none⟩ := fun j => World.cell?_of_block (a := ⟨C, j, none⟩) hC
  have e := h1.symm.trans h8
  simp only [Option.some.injEq, Value.slice.injEq] at e
  obtain ⟨rfl, rfl, rfl⟩ := e
  refine ⟨hB, ⟨a, len, cap, i, by omega, by rw [cell 0]; exact h1, by rw [cell 1]; exact h2, by rw [World.frozen?_of_block (a := ⟨C, 1, none⟩) hC]; exact h3, h4, h5, h6, fun hl => ?_⟩, a, len, cap, by rw [cell 0]; exact h8, h9⟩
  obtain ⟨b, off, ha, hbC, hz⟩ := h7 hl
  have hb := h9 hl b off ha
  exact ⟨b, off, ha, hbC, fun j hj => by rw [World.cell?_of_block (a := ⟨b, off + j, none⟩) (ho b hb)]; exact hz j hj⟩
theorem Th.In.keep {B : Nat} {W W' : World} {x : Th} (h : x.In B W) (hs : W.heap.size ≤ W'.heap.size) (hx : ∀ b, x.blk = some b → W'.heap[b]? = W.heap[b]?) (ho : ∀ k, k < B → W'.heap[k]? = W.heap[k]?) (hr : ∀ b ∈ x.reads, W'.heap[b]? = W.heap[b]?) : x.In B W' := by
  cases x with
  | ob c t cs => exact ⟨h.1, (hx c rfl).trans h.2⟩
  | sl v e z n xs =>
    refine ⟨h.1, ?_⟩
    rcases h.2 with h0 | ⟨g, cap, cur, hv, hB, hg, hr⟩
    · exact .inl h0
    · exact .inr ⟨g, cap, cur, hv, hB, (hx g (by rw [hv]; rfl)).trans hg, hr⟩
  | cd C => exact codes_keep h hs (hx C rfl) ho
  | rd R => exact RdIn.keep h hs hr
theorem Th.Apart.symm {x y : Th} (h : x.Apart y) : y.Apart x := ⟨fun b hy => ⟨fun hx => (h.1 b hx).1 hy, h.2 b hy⟩, fun b hx => (h.1 b hx).2⟩

structure Hp (w : World) (L : List Th) (W : World) : Prop where
  old : Below w.heap.size w W
  all : ∀ x ∈ L, x.In w.heap.size W
  nd : L.Pairwise Th.Apart
theorem Hp.start (w : World) : Hp w [] w := ⟨Below.refl _ _, by simp, .nil⟩
theorem Hp.in {w W : World} {L : List Th} (h : Hp w L W) (i : Nat) {x : Th} (e : L[i]? = some x) : x.In w.heap.size W := h.all _ (List.mem_of_getElem? e)
theorem Hp.get {w W : World} {L : List Th} (h : Hp w L W) (i : Nat) {b : Nat} {t : TypeId} {cs : List Value} (e : L[i]? = some (.ob b t cs)) : W.heap[b]? = some (.cells cs.toArray t (0, 0)) := (h.in i e).2
theorem Hp.at {w W : World} {L : List Th} (h : Hp w L W) (i : Nat) {b : Nat} {t : TypeId} {cs : List Value} (e : L[i]? = some (.ob b t cs)) (k : Nat) {v : Value} (hv : cs[k]? = some v) : W.cell? ⟨b, k, none⟩ = some v := by
  rw [cell_of_row W b k _ _ _ (h.get i e), List.getElem?_toArray]; exact hv
theorem Hp.frozen {w W : World} {L : List Th} (h : Hp w L W) (i : Nat) {b : Nat} {t : TypeId} {cs : List Value} (e : L[i]? = some (.ob b t cs)) (k : Nat) : W.frozen? ⟨b, k, none⟩ = false := frozen_of_row _ _ _ _ _ (h.get i e)
theorem Hp.codes {w W : World} {L : List Th} (h : Hp w L W) (i : Nat) {C : Nat} (e : L[i]? = some (.cd C)) : CodesOk W C := (h.in i e).2.1
theorem Hp.own {w W : World} {L : List Th} (h : Hp w L W) (i : Nat) {v : Value} {t : TypeId} {z n : Nat} {xs : List Value} (e : L[i]? = some (.sl v t z n xs)) : W.ownsRow w.heap.size t z v n xs := h.in i e
theorem Hp.lt {w W : World} {L : List Th} (h : Hp w L W) (i : Nat) {x : Th} {b : Nat} (e : L[i]? = some x) (hb : x.blk = some b) : w.heap.size ≤ b ∧ b < W.heap.size := (h.in i e).from hb
theorem apart_at {L : List Th} (hn : L.Pairwise Th.Apart) : ∀ (i j : Nat) (x y : Th), L[i]? = some x → L[j]? = some y → i ≠ j → x.Apart y := by
  induction L with
  | nil => intro i j x y hx; simp at hx
  | cons z l ih =>
    rw [List.pairwise_cons] at hn
    intro i j x y hx hy hij
    cases i with
    | zero =>
      cases j with
      | zero => exact absurd rfl hij
      | succ j =>
        obtain rfl : z = x := by simpa using hx
        exact hn.1 y (List.mem_of_getElem? (by simpa using hy))
    | succ i =>
      cases j with
      | zero =>
        obtain rfl : z = y := by simpa using hy
        exact (hn.1 x (List.mem_of_getElem? (by simpa using hx))).symm
      | succ j => exact ih hn.2 i j x y (by simpa using hx) (by simpa using hy) (by omega)
theorem Hp.ne {w W : World} {L : List Th} (h : Hp w L W) (i j : Nat) {x y : Th} {b c : Nat} (ei : L[i]? = some x) (ej : L[j]? = some y) (hij : i ≠ j) (hb : x.blk = some b) (hc : y.blk = some c) : b ≠ c := fun e => by
  subst e
  exact (apart_at h.nd i j x y ei ej hij).1 b hb |>.1 hc
theorem Hp.drew {w W : World} {L : List Th} (h : Hp w L W) : Hp w L W.drew := ⟨h.old.drew, fun x hx => (h.all x hx).keep (Nat.le_refl _) (fun _ _ => rfl) (fun _ _ => rfl) (fun _ _ => rfl), h.nd⟩
theorem Hp.drewN {w W : World} {L : List Th} (h : Hp w L W) (q : Nat) : Hp w L (W.drewN q) := ⟨⟨h.old.os, h.old.tape, h.old.output, h.old.size, h.old.block⟩, fun x hx => (h.all x hx).keep (Nat.le_refl _) (fun _ _ => rfl) (fun _ _ => rfl) (fun _ _ => rfl), h.nd⟩
theorem Hp.calls {w W W' : World} {L : List Th} (h : Hp w L W) (hb : Below W.heap.size W W') : Hp w L W' :=
  ⟨h.old.trans (hb.mono h.old.size), fun x hx => (h.all x hx).keep hb.size (fun b e => hb.block b ((h.all x hx).from e).2) (fun k hk => hb.block k (Nat.lt_of_lt_of_le hk h.old.size)) (fun b hbr => hb.block b ((h.all x hx).reads_lt hbr)), h.nd⟩
theorem mem_apart {L : List Th} (hn : L.Pairwise Th.Apart) {x z : Th} (hx : x ∈ L) (hz : z ∈ L) {b : Nat} (hb : x.blk = some b) (hr : b ∈ z.reads) : False := by
  induction L with
  | nil => cases hx
  | cons y l ih =>
    rw [List.pairwise_cons] at hn
    rcases List.mem_cons.1 hx with rfl | hx'
    · rcases List.mem_cons.1 hz with rfl | hz'
      · cases z <;> first | (cases hb; done) | (cases hr; done) | simp [Th.blk] at hb
      · exact ((hn.1 z hz').1 b hb).2 hr
    · rcases List.mem_cons.1 hz with rfl | hz'
      · exact (hn.1 x hx').2 b hb hr
      · exact ih hn.2 hx' hz'
theorem Hp.reads_apart {w W : World} {L : List Th} (h : Hp w L W) {x z : Th} (hx : x ∈ L) (hz : z ∈ L) {b : Nat} (hb : x.blk = some b) (hr : b ∈ z.reads) : False := mem_apart h.nd hx hz hb hr
theorem Hp.add {w W W' : World} {L : List Th} (h : Hp w L W) (hb : Below W.heap.size W W') (y : Th) (hy : y.In w.heap.size W') (hn : ∀ b, y.blk = some b → W.heap.size ≤ b) (hr : ∀ b ∈ y.reads, W.heap.size ≤ b ∨ ∃ z ∈ L, b ∈ z.reads) : Hp w (L ++ [y]) W' := by
  have h' := h.calls hb
  refine ⟨h'.old, fun x hx => ?_, ?_⟩
  · rcases List.mem_append.1 hx with hx | hx
    · exact h'.all x hx
    · obtain rfl := List.mem_singleton.1 hx
      exact hy
  · rw [List.pairwise_append]
    refine ⟨h.nd, List.pairwise_singleton _ _, fun a ha b hb => ?_⟩
    obtain rfl := List.mem_singleton.1 hb
    refine ⟨fun c hac => ⟨fun hbc => ?_, fun hbr => ?_⟩, fun c hbc har => ?_⟩
    · have h1 := ((h.all a ha).from hac).2
      have h2 := hn c hbc
      omega
    · have h1 := ((h.all a ha).from hac).2
      rcases hr c hbr with h2 | ⟨z, hz, hzr⟩
      · omega
      · exact h.reads_apart ha hz hac hzr
    · have h1 := (h.all a ha).reads_lt har
      have h2 := hn c hbc
      omega
/-- an object is made -/
theorem Hp.put {w W : World} {L : List Th} (h : Hp w L W) (t : TypeId) (cs : List Value) : Hp w (L ++ [.ob W.heap.size t cs]) (W.alloc (.cells cs.toArray t)) :=
  h.add ((Below.refl _ _).alloc (Nat.le_refl _) _) (.ob W.heap.size t cs) ⟨h.old.size, heap_alloc_last W _⟩ (fun b e => by obtain rfl : W.heap.size = b := Option.some.inj e; exact Nat.le_refl _) (fun b e => by cases e)
/-- choices begin -/
theorem Hp.begin {w W W' : World} {L : List Th} (h : Hp w L W) (hb : Below W.heap.size W W') (hc : CodesOk W' W.heap.size) (hl : ∃ a len cap, W'.cell? ⟨W.heap.size, 0, none⟩ = some (.slice a len cap) ∧ (0 < len → ∀ b off, a = some ⟨b, off, none⟩ → b < w.heap.size)) : Hp w (L ++ [.cd W.heap.size]) W' :=
  h.add hb (.cd W.heap.size) ⟨h.old.size, hc, hl⟩ (fun b e => by obtain rfl : W.heap.size = b := Option.some.inj e; exact Nat.le_refl _) (fun b e => by cases e)
/-- a slice of its own, nil as yet -/
theorem Hp.nil {w W : World} {L : List Th} (h : Hp w L W) (t : TypeId) (z : Nat) : Hp w (L ++ [.sl (.slice none 0 0) t z 0 []]) W :=
  h.add (Below.refl _ _) _ ⟨by simp, .inl ⟨rfl, rfl⟩⟩ (fun b e => by cases e) (fun b e => by cases e)
theorem pair_set' {L : List Th} {i : Nat} {x : Th} (hn : L.Pairwise Th.Apart) (e : L[i]? = some x) (y : Th) (hy : ∀ z ∈ L, z.Apart x → z.Apart y) : (L.set i y).Pairwise Th.Apart := by
  induction L generalizing i with
  | nil => simp at e
  | cons z l ih =>
    rw [List.pairwise_cons] at hn
    cases i with
    | zero =>
      obtain rfl : z = x := by simpa using e
      rw [List.set_cons_zero, List.pairwise_cons]
      exact ⟨fun u hu => (hy u (List.mem_cons_of_mem _ hu) (hn.1 u hu).symm).symm, hn.2⟩
    | succ i =>
      have e' : l[i]? = some x := by simpa using e
      rw [List.set_cons_succ, List.pairwise_cons]
      refine ⟨fun u hu => ?_, ih hn.2 e' (fun z hz => hy z (List.mem_cons_of_mem _ hz))⟩
      rcases List.mem_or_eq_of_mem_set hu with hu | rfl
      · exact hn.1 u hu
      · exact hy z (List.mem_cons_self ..) (hn.1 x (List.mem_of_getElem? e'))
theorem other_th {L : List Th} {i : Nat} {x z : Th} (hn : L.Pairwise Th.Apart) (e : L[i]? = some x) (y : Th) (hz : z ∈ L.set i y) : z = y ∨ (z ∈ L ∧ z.Apart x) := by
  induction L generalizing i with
  | nil => simp at e
  | cons u l ih =>
    rw [List.pairwise_cons] at hn
    cases i with
    | zero =>
      obtain rfl : u = x := by simpa using e
      rw [List.set_cons_zero] at hz
      rcases List.mem_cons.1 hz with rfl | hz
      · exact .inl rfl
      · exact .inr ⟨List.mem_cons_of_mem _ hz, (hn.1 z hz).symm⟩
    | succ i =>
      have e' : l[i]? = some x := by simpa using e
      rw [List.set_cons_succ] at hz
      rcases List.mem_cons.1 hz with rfl | hz
      · exact .inr ⟨List.mem_cons_self .., hn.1 x (List.mem_of_getElem? e')⟩
      · rcases ih hn.2 e' hz with h | h
        · exact .inl h
        · exact .inr ⟨List.mem_cons_of_mem _ h.1, h.2⟩
/-- a thing is turned; all that is not its block is as it was -/
theorem Hp.swap {w W W' : World} {L : List Th} (h : Hp w L W) (i : Nat) {x : Th} (e : L[i]? = some x) (y : Th) (hy : y.In w.heap.size W') (hn : ∀ b, y.blk = some b → x.blk = some b ∨ W.heap.size ≤ b) (hyr : y.reads = [])
    (hk : ∀ k, k < W.heap.size → x.blk ≠ some k → W'.heap[k]? = W.heap[k]?) (hos : W'.os = W.os) (ht : W'.tape = W.tape) (hout : W'.output = W.output) (hs : W.heap.size ≤ W'.heap.size) : Hp w (L.set i y) W' := by
  have hx := h.in i e
  have hold : ∀ k, k < w.heap.size → W'.heap[k]? = W.heap[k]? := fun k hk' => hk k (Nat.lt_of_lt_of_le hk' h.old.size) (fun e => by have := (hx.from e).1; omega)
  refine ⟨⟨hos.trans h.old.os, ht.trans h.old.tape, hout.trans h.old.output, Nat.le_trans h.old.size hs, fun k hk' => (hold k hk').trans (h.old.block k hk')⟩, fun z hz => ?_, pair_set' h.nd e y (fun z hz hzx => ?_)⟩
  · rcases other_th h.nd e y hz with rfl | ⟨hz, hzx⟩
    · exact hy
    · exact (h.all z hz).keep hs (fun b hb => hk b ((h.all z hz).from hb).2 (hzx.1 b hb).1) hold (fun b hb => hk b ((h.all z hz).reads_lt hb) (fun e => hzx.2 b e hb))
  · refine ⟨fun b hzb => ⟨fun hyb => ?_, fun hr => by rw [hyr] at hr; cases hr⟩, fun b hyb hzr => ?_⟩
    · rcases hn b hyb with hxb | hge
      · exact (hzx.1 b hzb).1 hxb
      · have := ((h.all z hz).from hzb).2
        omega
    · rcases hn b hyb with hxb | hge
      · exact hzx.2 b hxb hzr
      · have := (h.all z hz).reads_lt hzr
        omega
theorem Hp.draws {w W W' : World} {L : List Th} (h : Hp w L W) (i : Nat) {C : Nat} (e : L[i]? = some (.cd C)) (hb : Besides C W W') (hc : CodesOk W' C) : Hp w (L.set i (.cd C)) W' := by
  obtain ⟨hB, hok, a, len, cap, h8, h9⟩ := h.in i e
  exact h.swap i e (.cd C) ⟨hB, hc, a, len, cap, (hb.head hok.lt).trans h8, h9⟩ (fun b hb => .inl hb) rfl (fun k hk hne => hb.block k hk (fun e => hne (by rw [e]; rfl))) hb.os hb.tape hb.output hb.size
theorem Hp.set {w W : World} {L : List Th} (h : Hp w L W) (i : Nat) {b : Nat} {t : TypeId} {cs : List Value} (e : L[i]? = some (.ob b t cs)) (k : Nat) (v : Value) : Hp w (L.set i (.ob b t (cs.set k v))) (W.setCell ⟨b, k, none⟩ v) := by
  refine h.swap i e _ ⟨(h.in i e).1, ?_⟩ (fun b hb => .inl hb) rfl (fun j hj hne => Below.heap_setCell _ _ _ _ (fun e => hne (by rw [e]; rfl))) rfl rfl rfl (by simp [World.setCell])
  have := heap_setCell_same W b k _ _ v (h.get i e)
  rw [List.setIfInBounds_toArray] at this
  exact this
theorem Hp.row {w W : World} {L : List Th} (h : Hp w L W) (i : Nat) {b : Nat} {t : TypeId} {cs : List Value} (e : L[i]? = some (.ob b t cs)) (cs' : List Value) : Hp w (L.set i (.ob b t cs')) (W.setRow b cs'.toArray) :=
  h.swap i e _ ⟨(h.in i e).1, setRow_heap _ _ _ _ _ _ (h.get i e)⟩ (fun b hb => .inl hb) rfl (fun j hj hne => setRow_other _ _ _ _ (fun e => hne (by rw [e]; rfl))) rfl rfl rfl (by simp [World.setRow])
/-- a slice of its own has grown -/
theorem Hp.grown {w W W' : World} {L : List Th} (h : Hp w L W) (i : Nat) {v v' : Value} {t : TypeId} {z n m : Nat} {xs ys : List Value} (e : L[i]? = some (.sl v t z n xs)) (ho : W'.ownsRow w.heap.size t z v' m ys) (hg : W.grownBy W' v.ownBlock) (hb : v'.ownBlock = v.ownBlock ∨ v'.ownBlock = some W.heap.size) : Hp w (L.set i (.sl v' t z m ys)) W' := by
  refine h.swap i e _ ho (fun b hb' => ?_) rfl (fun k hk hne => hg.block k hk (fun e => hne e.symm)) hg.os hg.tape hg.output hg.size
  have hb'' : v'.ownBlock = some b := hb'
  rcases hb with hb | hb
  · exact .inl (hb.symm.trans hb'')
  · right
    rw [hb] at hb''
    exact Nat.le_of_eq (Option.some.inj hb'')
/-- what is not needed any more -/
theorem Hp.forget {w W : World} {L M : List Th} (h : Hp w (L ++ M) W) : Hp w L W := ⟨h.old, fun x hx => h.all x (List.mem_append_left _ hx), (List.pairwise_append.1 h.nd).1⟩
/-- some of the things alone -/
def Hold (B : Nat) (L : List Th) (W : World) : Prop := ∀ x ∈ L, x.In B W
theorem Hold.get {B : Nat} {L : List Th} {W : World} (h : Hold B L W) (i : Nat) {b : Nat} {t : TypeId} {cs : List Value} (e : L[i]? = some (.ob b t cs)) : W.heap[b]? = some (.cells cs.toArray t (0, 0)) := (h _ (List.mem_of_getElem? e)).2
theorem Hold.at {B : Nat} {L : List Th} {W : World} (h : Hold B L W) (i : Nat) {b : Nat} {t : TypeId} {cs : List Value} (e : L[i]? = some (.ob b t cs)) (k : Nat) {v : Value} (hv : cs[k]? = some v) : W.cell? ⟨b, k, none⟩ = some v := by
  rw [cell_of_row W b k _ _ _ (h.get i e), List.getElem?_toArray]; exact hv
theorem Hold.whole {B : Nat} {L : List Th} {W : World} (h : Hold B L W) (i : Nat) {b : Nat} {t : TypeId} {cs : List Value} (e : L[i]? = some (.ob b t cs)) : W.rangeAt b 0 cs := fun j v hv => by
  rw [Nat.zero_add]; exact h.at i e j hv
theorem Hp.pick {w W : World} {L M : List Th} (h : Hp w L W) (is : List Nat) (e : is.map (fun i => L[i]?) = M.map some) : Hold w.heap.size M W := fun x hx => by
  have : some x ∈ M.map some := List.mem_map.2 ⟨x, hx, rfl⟩
  rw [← e, List.mem_map] at this
  obtain ⟨i, _, hi⟩ := this
  exact h.in i hi
theorem Hp.pull {w W : World} {L M : List Th} (h : Hp w L W) (is : List Nat) (e : is.map (fun i => L[i]?) = M.map some) (hn : M.Pairwise Th.Apart) : Hp w M W := ⟨h.old, h.pick is e, hn⟩
theorem pull_nd {L M : List Th} (hn : L.Pairwise Th.Apart) (is : List Nat) (e : is.map (fun i => L[i]?) = M.map some) (hd : is.Pairwise (· ≠ ·)) : M.Pairwise Th.Apart := by
  induction is generalizing M with
  | nil =>
    cases M with
    | nil => exact .nil
    | cons m M => simp at e
  | cons i is ih =>
    cases M with
    | nil => simp at e
    | cons m M =>
      rw [List.map_cons, List.map_cons, List.cons.injEq] at e
      rw [List.pairwise_cons] at hd ⊢
      refine ⟨fun y hy => ?_, ih e.2 hd.2⟩
      have hy' : some y ∈ is.map (fun i => L[i]?) := by rw [e.2]; exact List.mem_map.2 ⟨y, hy, rfl⟩
      obtain ⟨j, hj, hje⟩ := List.mem_map.1 hy'
      exact apart_at hn i j m y e.1 hje (hd.1 j hj)
/-- part of a slice of its own -/
theorem own_range {B : Nat} {W : World} {t : TypeId} {z n : Nat} {v : Value} {xs : List Value} (h : W.ownsRow B t z v n xs) {g cap : Nat} (hv : v = .slice (some ⟨g, 0, none⟩) n cap) (k : Nat) (cs : List Value) (hc : ∀ j u, cs[j]? = some u → xs[k + j]? = some u) : W.rangeAt g k cs := fun j u hu => by
  rcases h.2 with ⟨h0, _⟩ | ⟨g', cap', cur, hv', _, hg, _, _, _, hx⟩
  · rw [hv] at h0; cases h0
  · rw [hv] at hv'
    have e : g = g' := by have := congrArg Value.ownBlock hv'; simpa [Value.ownBlock] using this
    subst e
    have hxs := hc j u hu
    rw [← hx] at hxs
    rw [cell_of_row W g (k + j) _ _ _ hg, ← Array.getElem?_toList]
    rw [List.getElem?_take] at hxs
    split at hxs
    · exact hxs
    · cases hxs
/-- what a type of elements is like -/
structure ElemIs (e : TypeId) (z bytes : Nat) : Prop where
  is : ∃ (inf : TypeInfo) (zv : Value), Try.prog.info? e = some inf ∧ inf.zero = some zv ∧ inf.size = z ∧ inf.bytes = bytes ∧ zv.cells.size = z
  pos : 0 < z
  small : z ≤ 65536
  room : bytes ≤ 65536
theorem Hp.append {w W : World} {L : List Th} (h : Hp w L W) (i : Nat) {v : Value} {e : TypeId} {z n : Nat} {xs : List Value} (ei : L[i]? = some (.sl v e z n xs)) (j : Nat) {b : Nat} {t' : TypeId} {ys : List Value} (ej : L[j]? = some (.ob b t' ys))
    (ts : TypeId) (ty : TypeId) {bytes : Nat} (ht : Try.prog.underlying ts = some (.slice e)) (he : ElemIs e z bytes) (m c : Nat) (hl : ys.length = m * z) (h1 : ∀ u ∈ ys, u.oneCell' = true) (hn : n + m ≤ 1048576) :
    ∃ v' W', (Builtin.append_ #[ts, ts] ty #[v, .slice (some ⟨b, 0, none⟩) m c]).run Try.prog W = .ok v' W' ∧ Hp w (L.set i (.sl v' e z (n + m) (xs ++ ys))) W' ∧ (v' = .slice none 0 0 ↔ v = .slice none 0 0 ∧ m = 0) := by
  obtain ⟨inf, zv, hi, hz, hsize, hby, hzs⟩ := he.is
  have hroom := he.room
  have hcell : ∀ q u, ys[q]? = some u → W.cell? ((⟨b, 0, none⟩ : Addr).add q) = some u := fun q u hu => by
    rw [Addr.add_mid, Nat.zero_add]
    exact h.at j ej q hu
  obtain ⟨v', W', hr, h2, h3, h4, h5⟩ := run_append_own_at (P := Try.prog) W w.heap.size ts ty e inf zv z bytes ht hi hz hsize hby hzs he.pos v n xs (h.own i ei) ⟨b, 0, none⟩ m c ys hl hcell h1 (by unfold maxLen; omega) (by
    have := Nat.mul_le_mul hn hroom
    omega) h.old.size
  exact ⟨v', W', hr, h.grown i ei h2 h3 h5, h4⟩
theorem wp_append_hp {o : Oper} {a : Act} {w W : World} {K : Act → World → Prop} {Q : Exit → Act → World → Prop} {L : List Th} (h : Hp w L W) (s x : Operand) (ts : TypeId) (ho : o.op = .call { callee := .builtin .append, args := #[s, x], argTypes := #[ts, ts] })
    (i : Nat) {v : Value} {e : TypeId} {z n : Nat} {xs : List Value} (ei : L[i]? = some (.sl v e z n xs)) (j : Nat) {b : Nat} {t' : TypeId} {ys : List Value} (ej : L[j]? = some (.ob b t' ys)) {bytes : Nat} (ht : Try.prog.underlying ts = some (.slice e)) (he : ElemIs e z bytes) (m c : Nat)
    (hs : a.eval s = v) (hx : a.eval x = .slice (some ⟨b, 0, none⟩) m c) (hl : ys.length = m * z) (h1 : ∀ u ∈ ys, u.oneCell' = true) (hn : n + m ≤ 1048576)
    (hk : ∀ v' W', Hp w (L.set i (.sl v' e z (n + m) (xs ++ ys))) W' → (v' = .slice none 0 0 ↔ v = .slice none 0 0 ∧ m = 0) → K (a.put o.dst v') W') : o.wp Try.prog a W K Q := by
  obtain ⟨v', W', hr, h2, h3⟩ := h.append i ei j ej ts o.type ht he m c hl h1 hn
  unfold Oper.wp execOp
  simp only [ho, resolve, invoke, builtin, Sem.run_bind, Sem.run_pure, Result.andThen_ok, List.map_toArray, List.map_cons, List.map_nil, hs, hx, hr]
  exact hk v' W' h2 h3
theorem wpList_append_hp {ops : Array Oper} {rest : List Oper} {a : Act} {w W : World} {Q : Exit → Act → World → Prop} {d : Option Tmp} {ty : TypeId} {pos : String} {aft : Array Edge} {L : List Th} (h : Hp w L W) (s x : Operand) (ts : TypeId)
    (i : Nat) {v : Value} {e : TypeId} {z n : Nat} {xs : List Value} (ei : L[i]? = some (.sl v e z n xs)) (j : Nat) {b : Nat} {t' : TypeId} {ys : List Value} (ej : L[j]? = some (.ob b t' ys)) {bytes : Nat} (ht : Try.prog.underlying ts = some (.slice e)) (he : ElemIs e z bytes) (m c : Nat)
    (hs : a.eval s = v) (hx : a.eval x = .slice (some ⟨b, 0, none⟩) m c) (hl : ys.length = m * z) (h1 : ∀ u ∈ ys, u.oneCell' = true) (hn : n + m ≤ 1048576)
    (hk : ∀ v' W', Hp w (L.set i (.sl v' e z (n + m) (xs ++ ys))) W' → (v' = .slice none 0 0 ↔ v = .slice none 0 0 ∧ m = 0) → wpList Try.prog ops Q rest (a.put d v') W') :
    wpList Try.prog ops Q ({ dst := d, op := .call { callee := .builtin .append, args := #[s, x], argTypes := #[ts, ts] }, type := ty, pos := pos, after := aft, guard := none } :: rest) a W :=
  wpList_plain rfl fun _ hK => wp_append_hp h s x ts rfl i ei j ej ht he m c hs hx hl h1 hn (fun v' W' p q => hK _ _ (hk v' W' p q))
/-- a slice of one, two or more elements, each a whole object -/
theorem run_build_obs {e ts : TypeId} {z bytes : Nat} (he : ElemIs e z bytes) (ht : Try.prog.underlying ts = some (.slice e)) (vs : List (List Value)) (hv : ∀ x ∈ vs, x.length = z) (h0 : 0 < vs.length) (h16 : vs.length ≤ 256) (W : World) :
    Sem.run Try.prog (Instr.buildSlice ts vs.length ((vs.zipIdx 0).map fun x => (x.2, Value.agg x.1.toArray)).toArray) W = .ok (.slice (some ⟨W.heap.size, 0, none⟩) vs.length vs.length) (W.alloc (.cells (vs.flatMap id).toArray e)) := by
  obtain ⟨inf, zv, hi, hz, hsize, hby, hzs⟩ := he.is
  have hp := he.pos
  have hsm := he.small
  refine run_buildSlice W ts e vs.length _ _ inf zv ht hi hz (by rw [hsize]; have := Nat.mul_le_mul h16 hsm; omega) (by rw [hsize]; exact Nat.ne_of_gt (Nat.mul_pos h0 hp)) ?_
  rw [hsize]
  have := Great.fill_whole (s := z) hp (vs.map fun x => Value.agg x.toArray) ((Array.range (vs.length * z)).map (zv.cells[· % zv.cells.size]!)) (by
    intro v hm
    obtain ⟨x, hx, rfl⟩ := List.mem_map.1 hm
    exact hv x hx) (by rw [Array.size_map, Array.size_range, List.length_map])
  rw [List.zipIdx_map, List.map_map] at this
  refine Eq.trans ?_ (this.trans ?_)
  · rfl
  · congr 1
    rw [List.flatMap_map]
    rfl
theorem wp_build_obs {o : Oper} {a : Act} {W : World} {K : Act → World → Prop} {Q : Exit → Act → World → Prop} {ts : TypeId} {n : Nat} {ps : Array (Nat × Operand)} (ho : o.op = .buildSlice ts n ps) {e : TypeId} {z bytes : Nat} (he : ElemIs e z bytes) (ht : Try.prog.underlying ts = some (.slice e)) (vs : List (List Value)) (hv : ∀ x ∈ vs, x.length = z) (h0 : 0 < vs.length) (h16 : vs.length ≤ 256) (hn : n = vs.length)
    (hp : ps.map (fun x => (x.1, a.eval x.2)) = ((vs.zipIdx 0).map fun x => (x.2, Value.agg x.1.toArray)).toArray)
    (h : K (a.put o.dst (.slice (some ⟨W.heap.size, 0, none⟩) n n)) (W.alloc (.cells (vs.flatMap id).toArray e))) : o.wp Try.prog a W K Q := by
  subst hn
  have hr := run_build_obs he ht vs hv h0 h16 W
  rw [← hp] at hr
  unfold Oper.wp execOp
  simp only [ho, Sem.run_bind, hr, Result.andThen_ok, Sem.run_pure]
  exact h
theorem wpList_build_obs (ts : TypeId) (n : Nat) {ps : Array (Nat × Operand)} {ops : Array Oper} {rest : List Oper} {a : Act} {W : World} {Q : Exit → Act → World → Prop} {d : Option Tmp} {ty : TypeId} {pos : String} {aft : Array Edge} {e : TypeId} {z bytes : Nat} (he : ElemIs e z bytes) (ht : Try.prog.underlying ts = some (.slice e)) (vs : List (List Value)) (hv : ∀ x ∈ vs, x.length = z) (h0 : 0 < vs.length) (h16 : vs.length ≤ 256) (hn : n = vs.length)
    (hp : ps.map (fun x => (x.1, a.eval x.2)) = ((vs.zipIdx 0).map fun x => (x.2, Value.agg x.1.toArray)).toArray)
    (h : wpList Try.prog ops Q rest (a.put d (.slice (some ⟨W.heap.size, 0, none⟩) n n)) (W.alloc (.cells (vs.flatMap id).toArray e))) :
    wpList Try.prog ops Q ({ dst := d, op := .buildSlice ts n ps, type := ty, pos := pos, after := aft, guard := none } :: rest) a W :=
  wpList_plain rfl fun _ hK => wp_build_obs rfl he ht vs hv h0 h16 hn hp (hK _ _ h)
/-- in a region that draws its order: a value that is built may be taken first -/
theorem yieldsIf_build_v {ops : Array Oper} {S : World → Prop} {op : Oper} {a : Act} (hw : Region.wanted op (yielded ops a.tmps) = true) (t : TypeId) (v : Value) {ps : Array (Nat × Operand)} (ho : op.op = .build t ps)
    (hb : ∀ W, Sem.run Try.prog (Instr.build t (ps.map fun x => (x.1, a.eval x.2))) W = .ok v W) : YieldsIf Try.prog ops S op v a :=
  .inl ⟨hw, fun W _ => by
    unfold execOp
    simp only [ho, Sem.run_bind, hb W, Result.andThen_ok, Sem.run_pure]⟩
theorem flat_mid {z : Nat} : ∀ (vs : List (List Value)) (_ : ∀ x ∈ vs, x.length = z) (k : Nat) (x : List Value), vs[k]? = some x → ∀ j v, x[j]? = some v → (vs.flatMap id)[k * z + j]? = some v
  | [], _, k, x, h, _, _, _ => by simp at h
  | y :: l, hz, 0, x, h, j, v, hv => by
    obtain rfl : y = x := by simpa using h
    rw [List.flatMap_cons, Nat.zero_mul, Nat.zero_add, List.getElem?_append_left (show j < (id y).length from (List.getElem?_eq_some_iff.1 hv).1)]
    exact hv
  | y :: l, hz, k + 1, x, h, j, v, hv => by
    have hy : (id y).length = z := hz y (List.mem_cons_self ..)
    rw [List.flatMap_cons, show (k + 1) * z + j = z + (k * z + j) from by rw [Nat.add_mul]; omega, List.getElem?_append_right (by omega), hy, Nat.add_sub_cancel_left]
    exact flat_mid l (fun u hu => hz u (List.mem_cons_of_mem _ hu)) k x (by simpa using h) j v hv
/-- a slice that a callee has made -/
theorem Hp.addown {w W W' : World} {L : List Th} (h : Hp w L W) (hb : Below W.heap.size W W') {v : Value} {t : TypeId} {z n : Nat} {xs : List Value} (ho : W'.ownsRow W.heap.size t z v n xs) : Hp w (L ++ [.sl v t z n xs]) W' := by
  refine h.add hb _ ⟨ho.1, ?_⟩ (fun b e => (ho.lt b e).1) (fun b e => by cases e)
  rcases ho.2 with h0 | ⟨g, cap, cur, hv, hB, hr⟩
  · exact .inl h0
  · exact .inr ⟨g, cap, cur, hv, Nat.le_trans h.old.size hB, hr⟩
/-- an array of whole objects is built -/
theorem run_build_arr {t e : TypeId} {n z : Nat} (hu : Try.prog.underlying t = some (.array n e)) (hs : (Try.prog.info? e).map (·.size) = some z) (hz : ((Try.prog.info? t).bind (·.zero)).map (·.cells.size) = some (n * z)) (hp : 0 < z) (vs : List (List Value)) (hv : ∀ x ∈ vs, x.length = z) (hn : vs.length = n) (W : World) :
    Sem.run Try.prog (Instr.build t ((vs.zipIdx 0).map fun x => (x.2, Value.agg x.1.toArray)).toArray) W = .ok (.agg (vs.flatMap id).toArray) W := by
  refine run_build W t _ _ ?_
  unfold Program.built
  cases hie : Try.prog.info? e with
  | none => simp [hie] at hs
  | some ie =>
    cases hit : Try.prog.info? t with
    | none => simp [hit] at hz
    | some it =>
      cases hzz : it.zero with
      | none => simp [hit, hzz] at hz
      | some zv =>
        simp only [hie, hit, hzz, Option.map_some, Option.some.injEq, Option.bind_some] at hs hz
        simp only [hu, hzz, hie]
        rw [hs]
        have := Great.fill_whole (s := z) hp (vs.map fun x => Value.agg x.toArray) zv.cells (by
          intro v hm
          obtain ⟨x, hx, rfl⟩ := List.mem_map.1 hm
          exact hv x hx) (by rw [List.length_map, hn, hz])
        rw [List.zipIdx_map, List.map_map] at this
        refine Eq.trans ?_ (this.trans ?_)
        · rfl
        · congr 1
          rw [List.flatMap_map]
          rfl
/-- part of an object -/
theorem Hold.mid {B : Nat} {L : List Th} {W : World} (h : Hold B L W) (i : Nat) {b : Nat} {t : TypeId} {cs : List Value} (e : L[i]? = some (.ob b t cs)) (k : Nat) (vs : List Value) (hv : ∀ j v, vs[j]? = some v → cs[k + j]? = some v) : W.rangeAt b k vs := fun j v hj => h.at i e (k + j) (hv j v hj)
theorem Hp.mid {w W : World} {L : List Th} (h : Hp w L W) (i : Nat) {b : Nat} {t : TypeId} {cs : List Value} (e : L[i]? = some (.ob b t cs)) (k : Nat) (vs : List Value) (hv : ∀ j v, vs[j]? = some v → cs[k + j]? = some v) : W.rangeAt b k vs := fun j v hj => h.at i e (k + j) (hv j v hj)
theorem Hp.reads {w W : World} {L : List Th} (h : Hp w L W) (i : Nat) {R : List Rng} (e : L[i]? = some (.rd R)) : RdIn W R := h.in i e
/-- cells that are read, in memory that a callee made or that is read already -/
theorem Hp.addrd {w W W' : World} {L : List Th} (h : Hp w L W) (hb : Below W.heap.size W W') (R : List Rng) (hR : RdIn W' R) (hr : ∀ r ∈ R, W.heap.size ≤ r.1 ∨ ∃ z ∈ L, r.1 ∈ z.reads) : Hp w (L ++ [.rd R]) W' :=
  h.add hb _ hR (fun b e => by cases e) (fun b hb' => by
    obtain ⟨r, hr', rfl⟩ := List.mem_map.1 hb'
    exact hr r hr')
/-- what the walk found is read -/
theorem Hp.startrd (w : World) (R : List Rng) (hR : RdIn w R) : Hp w [.rd R] w := ⟨Below.refl _ _, fun x hx => by
  obtain rfl := List.mem_singleton.1 hx
  exact hR, List.pairwise_singleton _ _⟩
/-- a slice of single words -/
theorem flat_cells {vs : List Value} (h : ∀ v ∈ vs, v.cells = #[v]) : (vs.flatMap fun v => v.cells.toList) = vs := by
  induction vs with
  | nil => rfl
  | cons v l ih => rw [List.flatMap_cons, h v (List.mem_cons_self ..), ih (fun u hu => h u (List.mem_cons_of_mem _ hu))]; rfl
theorem run_build_vals {e ts : TypeId} {bytes : Nat} (he : ElemIs e 1 bytes) (ht : Try.prog.underlying ts = some (.slice e)) (vs : List Value) (hv : ∀ v ∈ vs, v.cells = #[v]) (h0 : 0 < vs.length) (h16 : vs.length ≤ 256) (W : World) :
    Sem.run Try.prog (Instr.buildSlice ts vs.length ((vs.zipIdx 0).map fun x => (x.2, x.1)).toArray) W = .ok (.slice (some ⟨W.heap.size, 0, none⟩) vs.length vs.length) (W.alloc (.cells vs.toArray e)) := by
  obtain ⟨inf, zv, hi, hz, hsize, hby, hzs⟩ := he.is
  refine run_buildSlice W ts e vs.length _ _ inf zv ht hi hz (by rw [hsize]; omega) (by rw [hsize]; omega) ?_
  rw [hsize]
  have := Great.fill_whole (s := 1) (by decide) vs ((Array.range (vs.length * 1)).map (zv.cells[· % zv.cells.size]!)) (by
    intro v hm
    rw [hv v hm]; rfl) (by rw [Array.size_map, Array.size_range])
  rw [flat_cells hv] at this
  exact this
theorem wp_build_vals {o : Oper} {a : Act} {W : World} {K : Act → World → Prop} {Q : Exit → Act → World → Prop} {ts : TypeId} {n : Nat} {ps : Array (Nat × Operand)} (ho : o.op = .buildSlice ts n ps) {e : TypeId} {bytes : Nat} (he : ElemIs e 1 bytes) (ht : Try.prog.underlying ts = some (.slice e)) (vs : List Value) (hv : ∀ v ∈ vs, v.cells = #[v]) (h0 : 0 < vs.length) (h16 : vs.length ≤ 256) (hn : n = vs.length)
    (hp : ps.map (fun x => (x.1, a.eval x.2)) = ((vs.zipIdx 0).map fun x => (x.2, x.1)).toArray)
    (h : K (a.put o.dst (.slice (some ⟨W.heap.size, 0, none⟩) n n)) (W.alloc (.cells vs.toArray e))) : o.wp Try.prog a W K Q := by
  subst hn
  have hr := run_build_vals he ht vs hv h0 h16 W
  rw [← hp] at hr
  unfold Oper.wp execOp
  simp only [ho, Sem.run_bind, hr, Result.andThen_ok, Sem.run_pure]
  exact h
theorem wpList_build_vals (ts : TypeId) (n : Nat) {ps : Array (Nat × Operand)} {ops : Array Oper} {rest : List Oper} {a : Act} {W : World} {Q : Exit → Act → World → Prop} {d : Option Tmp} {ty : TypeId} {pos : String} {aft : Array Edge} {e : TypeId} {bytes : Nat} (he : ElemIs e 1 bytes) (ht : Try.prog.underlying ts = some (.slice e)) (vs : List Value) (hv : ∀ v ∈ vs, v.cells = #[v]) (h0 : 0 < vs.length) (h16 : vs.length ≤ 256) (hn : n = vs.length)
    (hp : ps.map (fun x => (x.1, a.eval x.2)) = ((vs.zipIdx 0).map fun x => (x.2, x.1)).toArray)
    (h : wpList Try.prog ops Q rest (a.put d (.slice (some ⟨W.heap.size, 0, none⟩) n n)) (W.alloc (.cells vs.toArray e))) :
    wpList Try.prog ops Q ({ dst := d, op := .buildSlice ts n ps, type := ty, pos := pos, after := aft, guard := none } :: rest) a W :=
  wpList_plain rfl fun _ hK => wp_build_vals rfl he ht vs hv h0 h16 hn hp (hK _ _ h)
end Go.Proofs.Ytgljhfofikjbdaa
/- a call that turns one object that it was handed: all else is as it was -/
namespace Go.Proofs.Ytgljhfofikjbdaa
open Go.RowKit
set_option maxRecDepth 20000

/-- nothing that was there is changed, but for block D -/
structure Other (D : Nat) (w w' : World) : Prop where
  os : w'.os = w.os
  tape : w'.tape = w.tape
  output : w'.output = w.output
  size : w.heap.size ≤ w'.heap.size
  block : ∀ k, k < w.heap.size → k ≠ D → w'.heap[k]? = w.heap[k]?
theorem Other.refl (D : Nat) (w : World) : Other D w w := ⟨rfl, rfl, rfl, Nat.le_refl _, fun _ _ _ => rfl⟩
theorem Other.trans {D : Nat} {a b c : World} (h : Other D a b) (k : Other D b c) : Other D a c :=
  ⟨k.os.trans h.os, k.tape.trans h.tape, k.output.trans h.output, Nat.le_trans h.size k.size, fun i hi hD => (k.block i (Nat.lt_of_lt_of_le hi h.size) hD).trans (h.block i hi hD)⟩
theorem Other.of_below {D : Nat} {w w' : World} (h : Below w.heap.size w w') : Other D w w' := ⟨h.os, h.tape, h.output, h.size, fun k hk _ => h.block k hk⟩
theorem Other.drew (D : Nat) (w : World) : Other D w w.drew := ⟨rfl, rfl, rfl, Nat.le_refl _, fun _ _ _ => rfl⟩
theorem Other.set (D : Nat) (w : World) (k : Nat) (v : Value) : Other D w (w.setCell ⟨D, k, none⟩ v) := ⟨rfl, rfl, rfl, by simp [World.setCell], fun j _ hj => Below.heap_setCell _ _ _ _ hj⟩
/-- the object at D is now another one -/
def TurnTo (D : Nat) (t : TypeId) (cs : List Value) (w w' : World) : Prop := Other D w w' ∧ w'.heap[D]? = some (.cells cs.toArray t (0, 0))
theorem TurnTo.trans {D : Nat} {t : TypeId} {a b c : World} {xs ys : List Value} (h : TurnTo D t xs a b) (k : TurnTo D t ys b c) : TurnTo D t ys a c := ⟨h.1.trans k.1, k.2⟩
theorem TurnTo.same {D : Nat} {t : TypeId} {w : World} {xs : List Value} (h : w.heap[D]? = some (.cells xs.toArray t (0, 0))) : TurnTo D t xs w w := ⟨Other.refl _ _, h⟩
theorem TurnTo.set {D : Nat} {t : TypeId} {w : World} {xs : List Value} (h : w.heap[D]? = some (.cells xs.toArray t (0, 0))) (k : Nat) (v : Value) : TurnTo D t (xs.set k v) w (w.setCell ⟨D, k, none⟩ v) :=
  ⟨Other.set D w k v, Ob.In.set (o := ⟨D, t, xs⟩) h k v⟩
/-- within such a call: these objects are new -/
structure Tn (w : World) (D : Nat) (t : TypeId) (cs : List Value) (L : List Ob) (W : World) : Prop where
  turn : TurnTo D t cs w W
  lt : D < w.heap.size
  obs : ∀ o ∈ L, o.In W
  new : ∀ o ∈ L, w.heap.size ≤ o.b
  nd : L.Pairwise fun o o' => o.b ≠ o'.b
theorem Tn.start {w : World} {D : Nat} {t : TypeId} {cs : List Value} (h : w.heap[D]? = some (.cells cs.toArray t (0, 0))) : Tn w D t cs [] w := ⟨TurnTo.same h, (Array.getElem?_eq_some_iff.1 h).1, by simp, by simp, .nil⟩
theorem Tn.here {w W : World} {D : Nat} {t : TypeId} {cs : List Value} {L : List Ob} (h : Tn w D t cs L W) : W.heap[D]? = some (.cells cs.toArray t (0, 0)) := h.turn.2
theorem Tn.get {w W : World} {D : Nat} {t t' : TypeId} {cs xs : List Value} {L : List Ob} (h : Tn w D t cs L W) (i : Nat) {b : Nat} (e : L[i]? = some ⟨b, t', xs⟩) : W.heap[b]? = some (.cells xs.toArray t' (0, 0)) := h.obs _ (List.mem_of_getElem? e)
theorem Tn.turns {w W W' : World} {D : Nat} {t : TypeId} {cs cs' : List Value} {L : List Ob} (h : Tn w D t cs L W) (k : TurnTo D t cs' W W') : Tn w D t cs' L W' :=
  ⟨h.turn.trans k, h.lt, fun o ho => (k.1.block o.b (h.obs o ho).lt (by have := h.new o ho; have := h.lt; omega)).trans (h.obs o ho), h.new, h.nd⟩
theorem Tn.calls {w W W' : World} {D : Nat} {t : TypeId} {cs : List Value} {L : List Ob} (h : Tn w D t cs L W) (k : Below W.heap.size W W') : Tn w D t cs L W' :=
  ⟨⟨h.turn.1.trans (Other.of_below k), (k.block D (Nat.lt_of_lt_of_le h.lt h.turn.1.size)).trans h.turn.2⟩, h.lt, fun o ho => (h.obs o ho).calls k, h.new, h.nd⟩
theorem Tn.put {w W : World} {D : Nat} {t : TypeId} {cs : List Value} {L : List Ob} (h : Tn w D t cs L W) (t' : TypeId) (xs : List Value) : Tn w D t cs (L ++ [⟨W.heap.size, t', xs⟩]) (W.alloc (.cells xs.toArray t')) := by
  have h' := h.calls ((Below.refl _ _).alloc (Nat.le_refl _) (.cells xs.toArray t'))
  refine ⟨h'.turn, h.lt, fun o ho => ?_, fun o ho => ?_, ?_⟩
  · rcases List.mem_append.1 ho with ho | ho
    · exact h'.obs o ho
    · obtain rfl := List.mem_singleton.1 ho
      exact heap_alloc_last W _
  · rcases List.mem_append.1 ho with ho | ho
    · exact h.new o ho
    · obtain rfl := List.mem_singleton.1 ho
      exact h.turn.1.size
  · rw [List.pairwise_append]
    refine ⟨h.nd, List.pairwise_singleton _ _, fun a ha b hb => ?_⟩
    obtain rfl := List.mem_singleton.1 hb
    have := (h.obs a ha).lt
    show a.b ≠ W.heap.size
    omega
theorem Tn.row {w W : World} {D : Nat} {t : TypeId} {cs : List Value} {L : List Ob} (h : Tn w D t cs L W) (i : Nat) {o : Ob} (e : L[i]? = some o) (xs : List Value) : Tn w D t cs (L.set i ⟨o.b, o.t, xs⟩) (W.setRow o.b xs.toArray) := by
  have hm := List.mem_of_getElem? e
  have hnw := h.new o hm
  have hlt := h.lt
  have hoth : ∀ k, k ≠ o.b → (W.setRow o.b xs.toArray).heap[k]? = W.heap[k]? := fun k hk => setRow_other _ _ _ _ hk
  have hs : (W.setRow o.b xs.toArray).heap.size = W.heap.size := by simp [World.setRow]
  refine ⟨⟨⟨h.turn.1.os, h.turn.1.tape, h.turn.1.output, Nat.le_trans h.turn.1.size (Nat.le_of_eq hs.symm), fun k hk hD => (hoth k (by omega)).trans (h.turn.1.block k hk hD)⟩, (hoth D (by omega)).trans h.turn.2⟩, hlt, fun x hx => ?_, fun x hx => ?_, pair_set h.nd e _ rfl⟩
  · rcases other_of h.nd e _ hx with rfl | ⟨hx, hb⟩
    · exact setRow_heap _ _ _ _ _ _ (h.obs o hm)
    · exact (hoth x.b hb).trans (h.obs x hx)
  · rcases other_of h.nd e _ hx with rfl | ⟨hx, hb⟩
    · exact hnw
    · exact h.new x hx
/-- a walk that holds the object hands it on -/
theorem Hp.turned {w W W' : World} {L : List Th} (h : Hp w L W) (i : Nat) {b : Nat} {t : TypeId} {cs cs' : List Value} (e : L[i]? = some (.ob b t cs)) (k : TurnTo b t cs' W W') : Hp w (L.set i (.ob b t cs')) W' :=
  h.swap i e (.ob b t cs') ⟨(h.in i e).1, k.2⟩ (fun c hc => .inl hc) rfl (fun j hj hb => k.1.block j hj (fun e => hb (congrArg some e.symm))) k.1.os k.1.tape k.1.output k.1.size
end Go.Proofs.Ytgljhfofikjbdaa
/- the walks of Put and Get of the program -/
namespace Go.Proofs.Ytgljhfofikjbdaa
open Go.RowKit

/-- what holds of Put's array behind k rounds -/
def PutRel (n : Int) (w wr : World) (k : Nat) : Prop :=
  Below w.heap.size w wr ∧ w.heap.size < wr.heap.size ∧ (∀ j, j < 8 → wr.cell? ⟨w.heap.size, j, none⟩ = some (.int .u8 (if j < k then n / 2 ^ (8 * j) % 256 else 0))) ∧ (∀ j, j < 8 → wr.frozen? ⟨w.heap.size, j, none⟩ = false)
theorem putRel_set {n : Int} {w wr : World} {k : Nat} (h : PutRel n w wr k) (hk : k < 8) : PutRel n w (wr.setCell ⟨w.heap.size, k, none⟩ (.int .u8 (n / 2 ^ (8 * k) % 256))) (k + 1) := by
  obtain ⟨hb, hz, hc, hf⟩ := h
  refine ⟨hb.setCell (Nat.le_refl _) _, by simpa using hz, fun j hj => ?_, fun j hj => by rw [World.frozen?_setCell]; exact hf j hj⟩
  by_cases e : j = k
  · subst e
    rw [World.cell?_setCell_same wr _ _ (hc j hj), if_pos (by omega)]
  · rw [World.cell?_setCell_other wr _ _ _ (by intro h; cases h; exact e rfl), hc j hj]
    by_cases hjk : j < k
    · rw [if_pos hjk, if_pos (by omega)]
    · rw [if_neg hjk, if_neg (by omega)]
set_option maxHeartbeats 400000 in
theorem put_ok (s : ByteArray) (n size : Int) (w : World) (hs : s.size ≤ 4611686018427387904) (h1 : 1 ≤ size) (h8 : size ≤ 8) :
    Calls Try.prog 26 #[.string s, .int .i64 n, .int .i64 size] w fun e w' => e = .returned (.string (s ++ leS n size.toNat)) ∧ Below w.heap.size w w' := by
  go_enter Try.func26, Try.ntmps26
  go_wp2
  go_loopw [8, 14] (fun _ i wr => ∃ k : Nat, (k : Int) ≤ size ∧ i = .int .i64 k ∧ PutRel n w wr k) (fun _ i _ => size.toNat - (intOf i).toNat)
  case atStart =>
    refine ⟨0, by omega, rfl, (Below.refl _ _).alloc (Nat.le_refl _) _, by simp, fun j hj => ?_, fun j hj => by simp⟩
    simp only [World.cell?_alloc_new]
    match j, hj with
    | 0, _ => rfl
    | 1, _ => rfl
    | 2, _ => rfl
    | 3, _ => rfl
    | 4, _ => rfl
    | 5, _ => rfl
    | 6, _ => rfl
    | 7, _ => rfl
  case round =>
    obtain ⟨k, hk, rfl, hr⟩ := hrel
    by_cases hlt : (k : Int) < size
    · have hset := putRel_set hr (by omega)
      have hc := hr.2.2.1 k (by omega)
      have hf := hr.2.2.2 k (by omega)
      clear hr
      go_wp2
      go_roundw
      case rel => exact ⟨k + 1, by omega, by go_num, hset⟩
      case measure => simp [intOf]; omega
    · obtain rfl : size = (k : Int) := by omega
      have hconv := run_convert_bytes_back (P := Try.prog) wr 22 9 5 ⟨w.heap.size, 0, none⟩ 8 (leL n k) Try.underlying22 Try.underlying5 Try.underlying9 (fun j hj => by
        rw [leL_length] at hj
        rw [leL_getD n k j hj, leB_toNat]
        have := hr.2.2.1 j (by omega)
        rw [if_pos hj] at this
        have ea : (⟨w.heap.size, 0, none⟩ : Addr).add j = ⟨w.heap.size, j, none⟩ := by
          simp only [Addr.add]; split
          · next h => rw [h]
          · simp
        rw [ea]; exact this)
      rw [leL_length] at hconv
      have hll : (leL n k).length ≤ 8 := by rw [leL_length]; omega
      have hb := hr.1
      clear hr
      go_wp2
      go_ret
      exact ⟨rfl, hb⟩
/-- a size that there is no number of: the text stays -/
theorem put_no (s : ByteArray) (n size : Int) (w : World) (h : size < 1 ∨ 8 < size) :
    Calls Try.prog 26 #[.string s, .int .i64 n, .int .i64 size] w fun e w' => e = .returned (.string s) ∧ Below w.heap.size w w' := by
  rcases h with h | h
  · have h' : ¬ 1 ≤ size := by omega
    go_enter Try.func26, Try.ntmps26
    go_wp2
    go_ret
    exact ⟨rfl, Below.refl _ _⟩
  · have h' : 1 ≤ size := by omega
    have h'' : ¬ size ≤ 8 := by omega
    go_enter Try.func26, Try.ntmps26
    go_wp2
    go_ret
    exact ⟨rfl, Below.refl _ _⟩
theorem valid_yes (z : Int) (w : World) (h1 : 1 ≤ z) (h8 : z ≤ 8) : Calls Try.prog 39 #[.int .i64 z] w fun e w' => e = .returned (.bool true) ∧ w = w' := by
  go_enter Try.func39, Try.ntmps39
  go_wp2
  go_ret
  exact ⟨rfl, rfl⟩
theorem valid_no (z : Int) (w : World) (h : z < 1 ∨ 8 < z) : Calls Try.prog 39 #[.int .i64 z] w fun e w' => e = .returned (.bool false) ∧ w = w' := by
  rcases h with h | h
  · have h' : ¬ 1 ≤ z := by omega
    go_enter Try.func39, Try.ntmps39
    go_wp2
    go_ret
    exact ⟨rfl, rfl⟩
  · have h' : 1 ≤ z := by omega
    have h'' : ¬ z ≤ 8 := by omega
    go_enter Try.func39, Try.ntmps39
    go_wp2
    go_ret
    exact ⟨rfl, rfl⟩
set_option maxHeartbeats 400000 in
theorem get_nat (s : ByteArray) (a z : Nat) (w : World) (hs : s.size ≤ maxLen) (h1 : 1 ≤ z) (h8 : z ≤ 8) (hat : a + z ≤ s.size) :
    Calls Try.prog 61 #[.string s, .int .i64 a, .int .i64 z] w fun e w' => e = .returned (.tuple #[.int .i64 (wrap64 (leNum s a z)), .int .i64 0]) ∧ w = w' := by
  unfold maxLen at hs
  have h0 : (0 : Int) ≤ (a : Int) := by omega
  have h1' : (1 : Int) ≤ (z : Int) := by omega
  have h8' : (z : Int) ≤ 8 := by omega
  have d0 : decide ((a : Int) < 0) = false := by simp
  have d1 : decide ((s.size : Int) - (z : Int) < (a : Int)) = false := by simp; omega
  go_enter Try.func61, Try.ntmps61
  go_wp2_with (go_at_call 39; refine (valid_yes _ _ (by omega) (by omega)).mono ?_; rintro e w' ⟨rfl, rfl⟩)
  go_loop [8, 9, 24] (fun x _ i => ∃ k : Nat, k ≤ z ∧ i = .int .i64 k ∧ x = .int .i64 (wrap64 (leNum s a k))) (fun _ _ i => z - (intOf i).toNat)
  case atStart => exact ⟨0, by omega, rfl, by rw [show ((leNum s a 0 : Nat) : Int) = 0 from rfl, wrap64_0]⟩
  case round =>
    obtain ⟨k, hk, rfl, rfl⟩ := hrel
    by_cases hlt : k < z
    · have HS : Hid (bits .or .i64 (wrap64 (leNum s a k : Int)) (wrap64 (wrap64 ((s[a + k].toNat : Nat) : Int) * 2 ^ (8 * k))) = wrap64 (leNum s a (k + 1) : Int)) := by
        show _ = _
        rw [or_i64 _ _ _ (leNum_lt s a k) s[a + k].toNat_lt (by omega), leNum, getD_at s (a + k) (by omega)]
      go_wp2
      go_round
      case rel => exact ⟨k + 1, by omega, by go_num, by rw [← HS.out]⟩
      case measure => simp [intOf]; omega
    · obtain rfl : z = k := by omega
      go_wp2
      go_ret2
      exact ⟨rfl, rfl⟩
set_option maxHeartbeats 400000 in
theorem get_range (s : ByteArray) (a z : Int) (w : World) (h : (z < 1 ∨ 8 < z) ∨ a < 0) :
    Calls Try.prog 61 #[.string s, .int .i64 a, .int .i64 z] w fun e w' => e = .returned (.tuple #[.int .i64 0, .int .i64 1]) ∧ w = w' := by
  by_cases hz : z < 1 ∨ 8 < z
  · go_enter Try.func61, Try.ntmps61
    go_wp2_with (go_at_call 39; refine (valid_no _ _ (by assumption)).mono ?_; rintro e w' ⟨rfl, rfl⟩)
    go_ret2
    exact ⟨rfl, rfl⟩
  · have ha : a < 0 := by omega
    clear h
    go_enter Try.func61, Try.ntmps61
    go_wp2_with (go_at_call 39; refine (valid_yes _ _ (by omega) (by omega)).mono ?_; rintro e w' ⟨rfl, rfl⟩)
    go_ret2
    exact ⟨rfl, rfl⟩
set_option maxHeartbeats 400000 in
theorem get_short (s : ByteArray) (a z : Int) (w : World) (hs : s.size ≤ maxLen) (h1 : 1 ≤ z) (h8 : z ≤ 8) (ha : 0 ≤ a) (h : s.size < a + z) :
    Calls Try.prog 61 #[.string s, .int .i64 a, .int .i64 z] w fun e w' => e = .returned (.tuple #[.int .i64 0, .int .i64 5]) ∧ w = w' := by
  unfold maxLen at hs
  have h' : ¬ a ≤ (s.size : Int) - z := by omega
  go_enter Try.func61, Try.ntmps61
  go_wp2_with (go_at_call 39; refine (valid_yes _ _ (by omega) (by omega)).mono ?_; rintro e w' ⟨rfl, rfl⟩)
  go_ret2
  exact ⟨rfl, rfl⟩
theorem get_any (s : ByteArray) (a z : Int) (w : World) (hs : s.size ≤ maxLen) :
    Calls Try.prog 61 #[.string s, .int .i64 a, .int .i64 z] w fun e w' => e = .returned (.tuple #[.int .i64 (getR s a z).1, .int .i64 (getR s a z).2]) ∧ w = w' := by
  unfold getR
  by_cases h : (z < 1 ∨ 8 < z) ∨ a < 0
  · simp only [if_pos h]; exact get_range s a z w h
  · by_cases h' : (s.size : Int) < a + z
    · simp only [if_neg h, if_pos h']; exact get_short s a z w hs (by omega) (by omega) (by omega) h'
    · simp only [if_neg h, if_neg h']
      obtain ⟨x, rfl⟩ := Int.eq_ofNat_of_zero_le (show 0 ≤ a by omega)
      obtain ⟨y, rfl⟩ := Int.eq_ofNat_of_zero_le (show 0 ≤ z by omega)
      exact get_nat s x y w hs (by omega) (by omega) (by omega)
theorem put_any (s : ByteArray) (n z : Int) (w : World) (hs : s.size ≤ 4611686018427387904) :
    Calls Try.prog 26 #[.string s, .int .i64 n, .int .i64 z] w fun e w' => e = .returned (.string (putR s n z)) ∧ Below w.heap.size w w' := by
  unfold putR
  by_cases h : z < 1 ∨ 8 < z
  · simp only [if_pos h]; exact put_no s n z w h
  · simp only [if_neg h]; exact put_ok s n z w hs (by omega) (by omega)
end Go.Proofs.Ytgljhfofikjbdaa
/- the reader of the program: fail, number, data -/
namespace Go.Proofs.Ytgljhfofikjbdaa
open Go.RowKit
set_option maxRecDepth 20000
set_option linter.unusedSimpArgs false
set_option linter.unusedVariables false

structure Rs where
  rest : ByteArray
  err : Int
def rdCells (r : Rs) : List Value := [.string r.rest, .int .i64 r.err]
def rdNil : Rs := ⟨⟨#[]⟩, 0⟩
theorem oneCell_rd (r : Rs) : ((rdCells r).toArray).all (·.oneCell') = true := by kernel_rfl
theorem info_rd : (Try.prog.info? 67).map (·.size) = some 2 := by kernel_rfl
theorem under_rd : ∃ fs, Try.prog.underlying 67 = some (.struct fs) := ⟨_, Try.underlying67⟩
theorem alloc_rd (w : World) : Sem.run Try.prog (Instr.alloc 67 true (.tuple #[])) w = .ok (.pointer (some ⟨w.heap.size, 0, none⟩)) (w.alloc (.cells (rdCells rdNil).toArray 67)) := by kernel_rfl
def failP (r : Rs) (e : Int) : Rs := if r.err = 0 then ⟨r.rest, e⟩ else r
def numP (z : Int) (r : Rs) : Int × Rs := if (r.rest.size : Int) < z then (0, failP r 5) else (wrap64 (leNum r.rest 0 z.toNat), ⟨r.rest.extract z.toNat r.rest.size, r.err⟩)
def dataP (n : Int) (r : Rs) : ByteArray × Rs := if (r.rest.size : Int) < n then (⟨#[]⟩, failP r 5) else (r.rest.extract 0 n.toNat, ⟨r.rest.extract n.toNat r.rest.size, r.err⟩)
abbrev RdAt (w : World) (D : Nat) (r : Rs) : Prop := w.heap[D]? = some (.cells (rdCells r).toArray 67 (0, 0))
abbrev RdTo (D : Nat) (r : Rs) (w w' : World) : Prop := TurnTo D 67 (rdCells r) w w'
theorem failP_size (r : Rs) (e : Int) : (failP r e).rest = r.rest := by unfold failP; split <;> rfl
theorem numP_size (z : Int) (r : Rs) : (numP z r).2.rest.size ≤ r.rest.size := by
  unfold numP
  split
  · show (failP r 5).rest.size ≤ _; rw [failP_size]; exact Nat.le_refl _
  · show (r.rest.extract _ _).size ≤ _; rw [ByteArray.size_extract]; omega
theorem dataP_size (z : Int) (r : Rs) : (dataP z r).2.rest.size ≤ r.rest.size := by
  unfold dataP
  split
  · show (failP r 5).rest.size ≤ _; rw [failP_size]; exact Nat.le_refl _
  · show (r.rest.extract _ _).size ≤ _; rw [ByteArray.size_extract]; omega
set_option maxHeartbeats 1000000 in
theorem fail_any (D : Nat) (r : Rs) (e : Int) (w : World) (h : RdAt w D r) : Calls Try.prog 62 #[.pointer (some ⟨D, 0, none⟩), .int .i64 e] w fun x w' => x = .returned (.tuple #[]) ∧ RdTo D (failP r e) w w' := by
  have hc : Ob.In ⟨D, 67, rdCells r⟩ w := h
  have c1 : w.cell? ⟨D, 1, none⟩ = some (.int .i64 r.err) := hc.at 1 rfl
  have f1 : w.frozen? ⟨D, 1, none⟩ = false := hc.frozen 1
  clear hc
  by_cases he : r.err = 0
  · have HT : Hid (RdTo D (failP r e) w (w.setCell ⟨D, 1, none⟩ (.int .i64 e))) := Lib.hid (by
      unfold failP
      rw [if_pos he]
      exact TurnTo.set h 1 (.int .i64 e))
    have hq : (r.err == 0) = true := by rw [he]; rfl
    clear h he
    go_enter Try.func62, Try.ntmps62
    go_wp2
    exact bodyPost_end (v := .tuple #[]) (by simp [results, Try.results62, go_sem]) rfl ⟨rfl, HT.out⟩
  · have HT : Hid (RdTo D (failP r e) w w) := Lib.hid (by
      unfold failP
      rw [if_neg he]
      exact TurnTo.same h)
    have hq : (r.err == 0) = false := by rw [beq_eq_false_iff_ne]; exact he
    clear h he
    go_enter Try.func62, Try.ntmps62
    go_wp2
    exact bodyPost_end (v := .tuple #[]) (by simp [results, Try.results62, go_sem]) rfl ⟨rfl, HT.out⟩
def NumPost (D : Nat) (z : Int) (r : Rs) (w : World) (e : Ending) (w' : World) : Prop := ∃ n r', e = .returned (.int .i64 n) ∧ Hid (numP z r = (n, r')) ∧ Hid (r'.rest.size ≤ r.rest.size) ∧ RdTo D r' w w'
theorem NumPost.mk {D : Nat} {z : Int} {r r' : Rs} {n : Int} {w w' : World} (h : numP z r = (n, r')) (k : RdTo D r' w w') : NumPost D z r w (.returned (.int .i64 n)) w' :=
  ⟨n, r', rfl, Lib.hid h, Lib.hid (by have := numP_size z r; rw [h] at this; exact this), k⟩
set_option maxHeartbeats 1000000 in
theorem number_any (D : Nat) (r : Rs) (z : Int) (w : World) (h : RdAt w D r) (hs : r.rest.size ≤ 1000000000) (h1 : 1 ≤ z) (h8 : z ≤ 8) : Calls Try.prog 53 #[.pointer (some ⟨D, 0, none⟩), .int .i64 z] w (NumPost D z r w) := by
  have hc : Ob.In ⟨D, 67, rdCells r⟩ w := h
  have c0 : w.cell? ⟨D, 0, none⟩ = some (.string r.rest) := hc.at 0 rfl
  have f0 : w.frozen? ⟨D, 0, none⟩ = false := hc.frozen 0
  clear hc
  by_cases hz : (r.rest.size : Int) < z
  · have HG : Hid (∀ W, Calls Try.prog 61 #[.string r.rest, .int .i64 0, .int .i64 z] W fun e w' => e = .returned (.tuple #[.int .i64 0, .int .i64 5]) ∧ W = w') := fun W => by
      have := get_any r.rest 0 z W (by unfold maxLen; omega)
      unfold getR at this
      rw [if_neg (by omega), if_pos (by omega)] at this
      exact this
    have HF := Lib.hid (fail_any D r 5 w h)
    have HP : Hid (∀ w', RdTo D (failP r 5) w w' → NumPost D z r w (.returned (.int .i64 0)) w') := Lib.hid (fun w' k => NumPost.mk (by unfold numP; rw [if_pos hz]) k)
    clear h hz hs h1 h8
    go_enter Try.func53, Try.ntmps53
    go_wp2_with fail
    refine (HG.out _).mono ?_
    rintro e w' ⟨rfl, rfl⟩
    go_wp2_with fail
    refine HF.out.mono ?_
    rintro e w2 ⟨rfl, ht⟩
    have HT := Lib.hid ht
    clear ht
    go_wp2_with fail
    go_ret
    exact HP.out _ HT.out
  · obtain ⟨k, rfl⟩ := Int.eq_ofNat_of_zero_le (show 0 ≤ z by omega)
    have HG : Hid (∀ W, Calls Try.prog 61 #[.string r.rest, .int .i64 0, .int .i64 k] W fun e w' => e = .returned (.tuple #[.int .i64 (wrap64 (leNum r.rest 0 k)), .int .i64 0]) ∧ W = w') := fun W => by
      have := get_any r.rest 0 k W (by unfold maxLen; omega)
      unfold getR at this
      rw [if_neg (by omega), if_neg (by omega)] at this
      exact this
    have hk0 : (0 : Int) ≤ (k : Int) := by omega
    have hks : (k : Int) ≤ (r.rest.size : Int) := by omega
    have HP : Hid (NumPost D k r w (.returned (.int .i64 (wrap64 (leNum r.rest 0 k)))) (w.setCell ⟨D, 0, none⟩ (.string (r.rest.extract k r.rest.size)))) := Lib.hid (NumPost.mk (r' := ⟨r.rest.extract k r.rest.size, r.err⟩) (by unfold numP; rw [if_neg hz]; rfl) (TurnTo.set h 0 (.string (r.rest.extract k r.rest.size))))
    generalize wrap64 (leNum r.rest 0 k) = n at *
    clear h hz hs h1 h8
    go_enter Try.func53, Try.ntmps53
    go_wp2_with fail
    refine (HG.out _).mono ?_
    rintro e w' ⟨rfl, rfl⟩
    go_wp2_with fail
    go_ret
    exact HP.out
def DataPst (D : Nat) (z : Int) (r : Rs) (w : World) (e : Ending) (w' : World) : Prop := ∃ n r', e = .returned (.string n) ∧ Hid (dataP z r = (n, r')) ∧ Hid (r'.rest.size ≤ r.rest.size) ∧ RdTo D r' w w'
theorem DataPst.mk {D : Nat} {z : Int} {r r' : Rs} {n : ByteArray} {w w' : World} (h : dataP z r = (n, r')) (k : RdTo D r' w w') : DataPst D z r w (.returned (.string n)) w' :=
  ⟨n, r', rfl, Lib.hid h, Lib.hid (by have := dataP_size z r; rw [h] at this; exact this), k⟩
set_option maxHeartbeats 1000000 in
theorem dataR_any (D : Nat) (r : Rs) (z : Int) (w : World) (h : RdAt w D r) (hs : r.rest.size ≤ 1000000000) (h1 : 0 ≤ z) : Calls Try.prog 55 #[.pointer (some ⟨D, 0, none⟩), .int .i64 z] w (DataPst D z r w) := by
  have hc : Ob.In ⟨D, 67, rdCells r⟩ w := h
  have c0 : w.cell? ⟨D, 0, none⟩ = some (.string r.rest) := hc.at 0 rfl
  have f0 : w.frozen? ⟨D, 0, none⟩ = false := hc.frozen 0
  clear hc
  by_cases hz : (r.rest.size : Int) < z
  · have HF := Lib.hid (fail_any D r 5 w h)
    have HP : Hid (∀ w', RdTo D (failP r 5) w w' → DataPst D z r w (.returned (.string ⟨#[]⟩)) w') := Lib.hid (fun w' k => DataPst.mk (by unfold dataP; rw [if_pos hz]) k)
    clear h hs h1
    go_enter Try.func55, Try.ntmps55
    go_wp2_with fail
    refine HF.out.mono ?_
    rintro e w2 ⟨rfl, ht⟩
    have HT := Lib.hid ht
    clear ht
    go_wp2_with fail
    go_ret
    exact HP.out _ HT.out
  · obtain ⟨k, rfl⟩ := Int.eq_ofNat_of_zero_le h1
    have hk0 : (0 : Int) ≤ (k : Int) := by omega
    have hks : (k : Int) ≤ (r.rest.size : Int) := by omega
    have HP : Hid (DataPst D k r w (.returned (.string (r.rest.extract 0 k))) (w.setCell ⟨D, 0, none⟩ (.string (r.rest.extract k r.rest.size)))) := Lib.hid (DataPst.mk (r' := ⟨r.rest.extract k r.rest.size, r.err⟩) (by unfold dataP; rw [if_neg hz]; rfl) (TurnTo.set h 0 (.string (r.rest.extract k r.rest.size))))
    clear h hs h1
    go_enter Try.func55, Try.ntmps55
    go_wp2_with fail
    go_ret
    exact HP.out
end Go.Proofs.Ytgljhfofikjbdaa
/- the walks of Put and Get of the reference -/
namespace Go.Proofs.Ytgljhfofikjbdaa
open Go.RowKit

set_option maxHeartbeats 400000 in
theorem rput_ok (s : ByteArray) (n size : Int) (w : World) (hs : s.size ≤ 4611686018427387904) (h1 : 1 ≤ size) (h8 : size ≤ 8) :
    Calls Try.prog 28 #[.string s, .int .i64 n, .int .i64 size] w fun e w' => e = .returned (.string (s ++ leS n size.toNat)) ∧ Below w.heap.size w w' := by
  go_enter Try.func28, Try.ntmps28
  go_wp2
  go_loopw [0, 7] (fun t i wr => ∃ k : Nat, (k : Int) ≤ size ∧ i = .int .i64 k ∧ t = .string (s ++ leS n k) ∧ Below w.heap.size w wr) (fun _ i _ => size.toNat - (intOf i).toNat)
  case atStart => exact ⟨0, by omega, rfl, by rw [show s ++ leS n 0 = s from str_eq (by rw [str_app]; simp [leS, leL])], Below.refl _ _⟩
  case round =>
    obtain ⟨k, hk, rfl, rfl, hb⟩ := hrel
    by_cases hlt : (k : Int) < size
    · have hll : (s ++ leS n k).size ≤ 4611686018427387904 + 8 := by rw [ByteArray.size_append, leS_size]; omega
      have HS : Hid (s ++ leS n (k + 1) = s ++ leS n k ++ ⟨#[leB n k]⟩) := by
        show _ = _
        apply str_eq
        simp only [str_app, leS, leL_succ, List.append_assoc]
      have hby := byte_of_u64 n k (by omega)
      generalize s ++ leS n k = t at *
      have hconv := conv_one wr (leB n k)
      generalize leB n k = b at *
      go_wp2
      go_roundw
      case rel => exact ⟨k + 1, by omega, by go_num, by rw [HS.out], hb.alloc hb.size _⟩
      case measure => simp [intOf]; omega
    · obtain rfl : size = (k : Int) := by omega
      go_wp2
      go_ret
      exact ⟨rfl, hb⟩
theorem rput_no (s : ByteArray) (n size : Int) (w : World) (h : size < 1 ∨ 8 < size) :
    Calls Try.prog 28 #[.string s, .int .i64 n, .int .i64 size] w fun e w' => e = .returned (.string s) ∧ Below w.heap.size w w' := by
  rcases h with h | h
  · go_enter Try.func28, Try.ntmps28
    go_wp2
    go_ret
    exact ⟨rfl, Below.refl _ _⟩
  · have h' : ¬ size < 1 := by omega
    go_enter Try.func28, Try.ntmps28
    go_wp2
    go_ret
    exact ⟨rfl, Below.refl _ _⟩
set_option maxHeartbeats 400000 in
theorem rget_nat (s : ByteArray) (a z : Nat) (w : World) (hs : s.size ≤ maxLen) (h1 : 1 ≤ z) (h8 : z ≤ 8) (hat : a + z ≤ s.size) :
    Calls Try.prog 56 #[.string s, .int .i64 a, .int .i64 z] w fun e w' => e = .returned (.tuple #[.int .i64 (wrap64 (leNum s a z)), .int .i64 0]) ∧ w = w' := by
  unfold maxLen at hs
  have h0 : (0 : Int) ≤ (a : Int) := by omega
  have h1' : (1 : Int) ≤ (z : Int) := by omega
  have h8' : (z : Int) ≤ 8 := by omega
  have d0 : decide ((a : Int) < 0) = false := by simp
  have d1 : decide ((z : Int) < 1) = false := by simp; omega
  have d2 : decide (8 < (z : Int)) = false := by simp; omega
  have d3 : decide (s.size < a) = false := by simp; omega
  have d4 : decide ((s.size : Int) - (a : Int) < (z : Int)) = false := by simp; omega
  go_enter Try.func56, Try.ntmps56
  go_wp2
  go_loop [8, 9] (fun x i => ∃ k : Nat, k ≤ z ∧ i = .int .i64 k ∧ x = .int .u64 (leNum s a k)) (fun _ i => z - (intOf i).toNat)
  case atStart => exact ⟨0, by omega, rfl, rfl⟩
  case round =>
    obtain ⟨k, hk, rfl, rfl⟩ := hrel
    by_cases hlt : k < z
    · have HS : Hid (bits .or .u64 (leNum s a k : Int) (IntKind.u64.wrap (IntKind.u64.wrap ((s[a + k].toNat : Nat) : Int) * 2 ^ (8 * k))) = (leNum s a (k + 1) : Int)) := by
        show _ = _
        rw [or_u64 _ _ _ (leNum_lt s a k) s[a + k].toNat_lt (by omega), leNum, getD_at s (a + k) (by omega)]
      go_wp2
      go_round
      case rel => exact ⟨k + 1, by omega, by go_num, by rw [← HS.out]⟩
      case measure => simp [intOf]; omega
    · obtain rfl : z = k := by omega
      go_wp2
      go_ret2
      exact ⟨rfl, rfl⟩
set_option maxHeartbeats 400000 in
theorem rget_range (s : ByteArray) (a z : Int) (w : World) (h : (z < 1 ∨ 8 < z) ∨ a < 0) :
    Calls Try.prog 56 #[.string s, .int .i64 a, .int .i64 z] w fun e w' => e = .returned (.tuple #[.int .i64 0, .int .i64 1]) ∧ w = w' := by
  by_cases h1 : z < 1
  · clear h
    have d1 : decide (z < 1) = true := by simpa using h1
    go_enter Try.func56, Try.ntmps56
    go_wp2
    go_ret2
    exact ⟨rfl, rfl⟩
  · have d1 : decide (z < 1) = false := by simpa using h1
    by_cases h8 : 8 < z
    · clear h
      have d8 : decide (8 < z) = true := by simpa using h8
      go_enter Try.func56, Try.ntmps56
      go_wp2
      go_ret2
      exact ⟨rfl, rfl⟩
    · have d8 : decide (8 < z) = false := by simpa using h8
      have ha : a < 0 := by omega
      have da : decide (a < 0) = true := by simpa using ha
      clear h
      go_enter Try.func56, Try.ntmps56
      go_wp2
      go_ret2
      exact ⟨rfl, rfl⟩
set_option maxHeartbeats 400000 in
theorem rget_short (s : ByteArray) (a z : Int) (w : World) (_hs : s.size ≤ maxLen) (h1 : 1 ≤ z) (h8 : z ≤ 8) (ha : 0 ≤ a) (h : s.size < a + z) :
    Calls Try.prog 56 #[.string s, .int .i64 a, .int .i64 z] w fun e w' => e = .returned (.tuple #[.int .i64 0, .int .i64 5]) ∧ w = w' := by
  unfold maxLen at _hs
  have d0 : decide (a < 0) = false := by simp; omega
  have d1 : decide (z < 1) = false := by simp; omega
  have d2 : decide (8 < z) = false := by simp; omega
  by_cases hl : (s.size : Int) < a
  · have d3 : decide ((s.size : Int) < a) = true := by simpa using hl
    go_enter Try.func56, Try.ntmps56
    go_wp2
    go_ret2
    exact ⟨rfl, rfl⟩
  · have d3 : decide ((s.size : Int) < a) = false := by simpa using hl
    have d4 : decide ((s.size : Int) - a < z) = true := by simp; omega
    go_enter Try.func56, Try.ntmps56
    go_wp2
    go_ret2
    exact ⟨rfl, rfl⟩
theorem rget_any (s : ByteArray) (a z : Int) (w : World) (hs : s.size ≤ maxLen) :
    Calls Try.prog 56 #[.string s, .int .i64 a, .int .i64 z] w fun e w' => e = .returned (.tuple #[.int .i64 (getR s a z).1, .int .i64 (getR s a z).2]) ∧ w = w' := by
  unfold getR
  by_cases h : (z < 1 ∨ 8 < z) ∨ a < 0
  · simp only [if_pos h]; exact rget_range s a z w h
  · by_cases h' : (s.size : Int) < a + z
    · simp only [if_neg h, if_pos h']; exact rget_short s a z w hs (by omega) (by omega) (by omega) h'
    · simp only [if_neg h, if_neg h']
      obtain ⟨x, rfl⟩ := Int.eq_ofNat_of_zero_le (show 0 ≤ a by omega)
      obtain ⟨y, rfl⟩ := Int.eq_ofNat_of_zero_le (show 0 ≤ z by omega)
      exact rget_nat s x y w hs (by omega) (by omega) (by omega)
theorem rput_any (s : ByteArray) (n z : Int) (w : World) (hs : s.size ≤ 4611686018427387904) :
    Calls Try.prog 28 #[.string s, .int .i64 n, .int .i64 z] w fun e w' => e = .returned (.string (putR s n z)) ∧ Below w.heap.size w w' := by
  unfold putR
  by_cases h : z < 1 ∨ 8 < z
  · simp only [if_pos h]; exact rput_no s n z w h
  · simp only [if_neg h]; exact rput_ok s n z w hs (by omega) (by omega)
end Go.Proofs.Ytgljhfofikjbdaa
/- the cursor of the reference: number, bytes -/
namespace Go.Proofs.Ytgljhfofikjbdaa
open Go.RowKit
set_option maxRecDepth 20000
set_option linter.unusedSimpArgs false
set_option linter.unusedVariables false

structure Cu where
  s : ByteArray
  at_ : Nat
  e : Int
def cuCells (c : Cu) : List Value := [.string c.s, .int .i64 (c.at_ : Int), .int .i64 c.e]
def cuNil : Cu := ⟨⟨#[]⟩, 0, 0⟩
theorem oneCell_cu (r : Cu) : ((cuCells r).toArray).all (·.oneCell') = true := by kernel_rfl
theorem info_cu : (Try.prog.info? 70).map (·.size) = some 3 := by kernel_rfl
theorem under_cu : ∃ fs, Try.prog.underlying 70 = some (.struct fs) := ⟨_, Try.underlying70⟩
def failC (c : Cu) (e : Int) : Cu := ⟨c.s, c.at_, e⟩
def rnumP (z : Int) (c : Cu) : Int × Cu := if c.e = 0 then (if (c.s.size : Int) < c.at_ + z then (0, failC c 5) else (wrap64 (leNum c.s c.at_ z.toNat), ⟨c.s, c.at_ + z.toNat, c.e⟩)) else (0, c)
def rbytesP (n : Int) (c : Cu) : ByteArray × Cu := if c.e = 0 then (if (c.s.size : Int) < c.at_ + n then (⟨#[]⟩, failC c 5) else (c.s.extract c.at_ (c.at_ + n.toNat), ⟨c.s, c.at_ + n.toNat, c.e⟩)) else (⟨#[]⟩, c)
abbrev CuAt (w : World) (D : Nat) (r : Cu) : Prop := w.heap[D]? = some (.cells (cuCells r).toArray 70 (0, 0))
abbrev CuTo (D : Nat) (r : Cu) (w w' : World) : Prop := TurnTo D 70 (cuCells r) w w'
structure CuOk (c c' : Cu) : Prop where
  s : c'.s = c.s
  at_ : c.at_ ≤ c.s.size → c'.at_ ≤ c.s.size
theorem CuOk.refl (c : Cu) : CuOk c c := ⟨rfl, id⟩
theorem CuOk.trans {a b c : Cu} (h : CuOk a b) (k : CuOk b c) : CuOk a c := ⟨k.s.trans h.s, fun h0 => by have := k.at_ (by rw [h.s]; exact h.at_ h0); rw [h.s] at this; exact this⟩
theorem rnumP_ok (z : Int) (c : Cu) (hz : 0 ≤ z) : CuOk c (rnumP z c).2 := by
  unfold rnumP
  split
  · split
    · exact ⟨rfl, id⟩
    · exact ⟨rfl, fun _ => by show c.at_ + z.toNat ≤ _; omega⟩
  · exact CuOk.refl c
theorem rbytesP_ok (z : Int) (c : Cu) (hz : 0 ≤ z) : CuOk c (rbytesP z c).2 := by
  unfold rbytesP
  split
  · split
    · exact ⟨rfl, id⟩
    · exact ⟨rfl, fun _ => by show c.at_ + z.toNat ≤ _; omega⟩
  · exact CuOk.refl c
theorem TurnTo.drewN {D : Nat} {t : TypeId} {w w' : World} {xs : List Value} (q : Nat) (h : TurnTo D t xs (w.drewN q) w') : TurnTo D t xs w w' := ⟨⟨h.1.os, h.1.tape, h.1.output, h.1.size, h.1.block⟩, h.2⟩
def CNumPost (D : Nat) (z : Int) (c : Cu) (w : World) (e : Ending) (w' : World) : Prop := ∃ n c', e = .returned (.int .i64 n) ∧ Hid (rnumP z c = (n, c')) ∧ Hid (CuOk c c') ∧ CuTo D c' w w'
theorem CNumPost.mk {D : Nat} {z : Int} {r r' : Cu} {n : Int} {w w' : World} (hz : 0 ≤ z) (h : rnumP z r = (n, r')) (k : CuTo D r' w w') : CNumPost D z r w (.returned (.int .i64 n)) w' :=
  ⟨n, r', rfl, Lib.hid h, Lib.hid (by have := rnumP_ok z r hz; rw [h] at this; exact this), k⟩
set_option maxHeartbeats 2000000 in
theorem cnumber_any (D : Nat) (c : Cu) (z : Int) (w : World) (h : CuAt w D c) (hs : c.s.size ≤ 1000000000) (ha : c.at_ ≤ c.s.size) (h1 : 1 ≤ z) (h8 : z ≤ 8) : Calls Try.prog 35 #[.pointer (some ⟨D, 0, none⟩), .int .i64 z] w (CNumPost D z c w) := by
  have hc : Ob.In ⟨D, 70, cuCells c⟩ w := h
  have c0 : w.cell? ⟨D, 0, none⟩ = some (.string c.s) := hc.at 0 rfl
  have c1 : w.cell? ⟨D, 1, none⟩ = some (.int .i64 (c.at_ : Int)) := hc.at 1 rfl
  have c2 : w.cell? ⟨D, 2, none⟩ = some (.int .i64 c.e) := hc.at 2 rfl
  have f1 : w.frozen? ⟨D, 1, none⟩ = false := hc.frozen 1
  have f2 : w.frozen? ⟨D, 2, none⟩ = false := hc.frozen 2
  clear hc
  by_cases he : c.e = 0
  case neg =>
    have HP : Hid (CNumPost D z c w (.returned (.int .i64 0)) w) := Lib.hid (CNumPost.mk (by omega) (by unfold rnumP; rw [if_neg he]) (TurnTo.same h))
    have hq : (c.e != 0) = true := by simpa using he
    clear h hs ha h1 h8 he
    go_enter Try.func35, Try.ntmps35
    go_wp2_with fail
    go_ret
    exact HP.out
  case pos =>
  have hq : (c.e != 0) = false := by rw [he]; rfl
  by_cases hz : (c.s.size : Int) < c.at_ + z
  · have HG : Hid (∀ W, Calls Try.prog 56 #[.string c.s, .int .i64 (c.at_ : Int), .int .i64 z] W fun e w' => e = .returned (.tuple #[.int .i64 0, .int .i64 5]) ∧ w' = W) := fun W => by
      have := (rget_any c.s c.at_ z W (by unfold maxLen; omega)).mono (fun e w' ⟨h, k⟩ => (⟨h, k.symm⟩ : _ ∧ w' = W))
      unfold getR at this
      rw [if_neg (by omega), if_pos (by omega)] at this
      exact this
    have HP : Hid (∀ q : Nat, CNumPost D z c w (.returned (.int .i64 0)) ((w.drewN q).setCell ⟨D, 2, none⟩ (.int .i64 5))) := Lib.hid (fun q => CNumPost.mk (r' := failC c 5) (by omega) (by unfold rnumP; rw [if_pos he, if_pos hz]) (TurnTo.drewN q (TurnTo.set (w := w.drewN q) h 2 (.int .i64 5))))
    clear h hz hs h1 h8 ha he
    go_enter Try.func35, Try.ntmps35
    go_wp2_with fail
    go_quiet ((go_at_call 56; exact Calls.quiet_of_same (HG.out _)))
    go_wp2_with fail
    go_ret
    exact HP.out _
  · obtain ⟨k, rfl⟩ := Int.eq_ofNat_of_zero_le (show 0 ≤ z by omega)
    have HG : Hid (∀ W, Calls Try.prog 56 #[.string c.s, .int .i64 (c.at_ : Int), .int .i64 k] W fun e w' => e = .returned (.tuple #[.int .i64 (wrap64 (leNum c.s c.at_ k)), .int .i64 0]) ∧ w' = W) := fun W => by
      have := (rget_any c.s c.at_ k W (by unfold maxLen; omega)).mono (fun e w' ⟨h, k⟩ => (⟨h, k.symm⟩ : _ ∧ w' = W))
      unfold getR at this
      rw [if_neg (by omega), if_neg (by omega)] at this
      exact this
    have HP : Hid (∀ q : Nat, CNumPost D k c w (.returned (.int .i64 (wrap64 (leNum c.s c.at_ k)))) ((w.drewN q).setCell ⟨D, 1, none⟩ (.int .i64 ((c.at_ : Int) + (k : Int))))) := Lib.hid (fun q => CNumPost.mk (r' := ⟨c.s, c.at_ + k, c.e⟩) (by omega) (by unfold rnumP; rw [if_pos he, if_neg hz]; rfl) (TurnTo.drewN q (TurnTo.set (w := w.drewN q) h 1 (.int .i64 ((c.at_ : Int) + (k : Int))))))
    generalize wrap64 (leNum c.s c.at_ k) = n at *
    have hsum : (c.at_ : Int) + (k : Int) ≤ 1000000000 := by omega
    have hs0 : (0 : Int) ≤ (c.at_ : Int) := by omega
    have hk0 : (0 : Int) ≤ (k : Int) := by omega
    clear h hz hs h1 h8 ha he
    go_enter Try.func35, Try.ntmps35
    go_wp2_with fail
    go_quiet ((go_at_call 56; exact Calls.quiet_of_same (HG.out _)))
    go_wp2_with fail
    go_ret
    exact HP.out _
def CBytesPost (D : Nat) (z : Int) (c : Cu) (w : World) (e : Ending) (w' : World) : Prop := ∃ n c', e = .returned (.string n) ∧ Hid (rbytesP z c = (n, c')) ∧ Hid (CuOk c c') ∧ CuTo D c' w w'
theorem CBytesPost.mk {D : Nat} {z : Int} {r r' : Cu} {n : ByteArray} {w w' : World} (hz : 0 ≤ z) (h : rbytesP z r = (n, r')) (k : CuTo D r' w w') : CBytesPost D z r w (.returned (.string n)) w' :=
  ⟨n, r', rfl, Lib.hid h, Lib.hid (by have := rbytesP_ok z r hz; rw [h] at this; exact this), k⟩
set_option maxHeartbeats 2000000 in
theorem cbytes_any (D : Nat) (c : Cu) (z : Int) (w : World) (h : CuAt w D c) (hs : c.s.size ≤ 1000000000) (ha : c.at_ ≤ c.s.size) (h1 : 0 ≤ z) : Calls Try.prog 37 #[.pointer (some ⟨D, 0, none⟩), .int .i64 z] w (CBytesPost D z c w) := by
  have hc : Ob.In ⟨D, 70, cuCells c⟩ w := h
  have c0 : w.cell? ⟨D, 0, none⟩ = some (.string c.s) := hc.at 0 rfl
  have c1 : w.cell? ⟨D, 1, none⟩ = some (.int .i64 (c.at_ : Int)) := hc.at 1 rfl
  have c2 : w.cell? ⟨D, 2, none⟩ = some (.int .i64 c.e) := hc.at 2 rfl
  have f1 : w.frozen? ⟨D, 1, none⟩ = false := hc.frozen 1
  have f2 : w.frozen? ⟨D, 2, none⟩ = false := hc.frozen 2
  clear hc
  by_cases he : c.e = 0
  case neg =>
    have HP : Hid (CBytesPost D z c w (.returned (.string ⟨#[]⟩)) w) := Lib.hid (CBytesPost.mk h1 (by unfold rbytesP; rw [if_neg he]) (TurnTo.same h))
    have hq : (c.e != 0) = true := by simpa using he
    clear h hs ha h1 he
    go_enter Try.func37, Try.ntmps37
    go_wp2_with fail
    go_ret
    exact HP.out
  case pos =>
  have hq : (c.e != 0) = false := by rw [he]; rfl
  have ha' : (c.at_ : Int) ≤ (c.s.size : Int) := by omega
  have hs' : (c.s.size : Int) ≤ 1000000000 := by omega
  have hs0 : (0 : Int) ≤ (c.at_ : Int) := by omega
  have hw : IntKind.i64.wrap ((c.s.size : Int) - (c.at_ : Int)) = (c.s.size : Int) - (c.at_ : Int) := IntWalk.i64_in _ (by omega)
  by_cases hz : (c.s.size : Int) < c.at_ + z
  · have HP : Hid (∀ q : Nat, CBytesPost D z c w (.returned (.string ⟨#[]⟩)) ((w.drewN q).setCell ⟨D, 2, none⟩ (.int .i64 5))) := Lib.hid (fun q => CBytesPost.mk (r' := failC c 5) h1 (by unfold rbytesP; rw [if_pos he, if_pos hz]) (TurnTo.drewN q (TurnTo.set (w := w.drewN q) h 2 (.int .i64 5))))
    have hd : decide ((c.s.size : Int) - (c.at_ : Int) < z) = true := by simp; omega
    clear h hz hs h1 ha he ha' hs'
    go_enter Try.func37, Try.ntmps37
    go_wp2_with fail
    go_quiet (fail)
    clear hw
    go_wp2_with fail
    go_ret
    exact HP.out _
  · obtain ⟨k, rfl⟩ := Int.eq_ofNat_of_zero_le h1
    have HP : Hid (∀ q q' : Nat, CBytesPost D k c w (.returned (.string (c.s.extract c.at_ (c.at_ + k)))) (((w.drewN q).setCell ⟨D, 1, none⟩ (.int .i64 ((c.at_ : Int) + (k : Int)))).drewN q')) := Lib.hid (fun q q' => CBytesPost.mk (r' := ⟨c.s, c.at_ + k, c.e⟩) h1 (by unfold rbytesP; rw [if_pos he, if_neg hz]; rfl) (by
      have := TurnTo.drewN q (TurnTo.set (w := w.drewN q) h 1 (.int .i64 ((c.at_ : Int) + (k : Int))))
      exact ⟨⟨this.1.os, this.1.tape, this.1.output, this.1.size, this.1.block⟩, this.2⟩))
    have HC : Hid (∀ q : Nat, Ob.In ⟨D, 70, cuCells ⟨c.s, c.at_ + k, c.e⟩⟩ ((w.drewN q).setCell ⟨D, 1, none⟩ (.int .i64 ((c.at_ : Int) + (k : Int))))) := Lib.hid (fun q => (TurnTo.set (w := w.drewN q) h 1 (.int .i64 ((c.at_ : Int) + (k : Int)))).2)
    have hd : decide ((c.s.size : Int) - (c.at_ : Int) < (k : Int)) = false := by simp; omega
    have hk0 : (0 : Int) ≤ (k : Int) := by omega
    have hak : (c.at_ : Int) + (k : Int) ≤ (c.s.size : Int) := by omega
    clear h hz hs h1 ha he
    go_enter Try.func37, Try.ntmps37
    go_wp2_with fail
    go_quiet (fail)
    clear hw hd
    go_upto_region 7 with (fail)
    have HC1 := Lib.hid (HC.out nq)
    have HP1 := Lib.hid (HP.out nq)
    have hw2 : IntKind.i64.wrap ((c.at_ : Int) + (k : Int) - (k : Int)) = (c.at_ : Int) := by rw [Int.add_sub_cancel]; exact IntWalk.i64_in _ (by omega)
    have hw3 : ((c.at_ : Int) + (k : Int)).toNat = c.at_ + k := by omega
    have hw4 : (c.at_ : Int) ≤ (c.at_ : Int) + (k : Int) := by omega
    clear HC HP
    generalize (w.drewN nq).setCell ⟨D, 1, none⟩ (.int .i64 ((c.at_ : Int) + (k : Int))) = w2 at *
    have d0 : w2.cell? ⟨D, 0, none⟩ = some (.string c.s) := HC1.out.at 0 rfl
    have d1 : w2.cell? ⟨D, 1, none⟩ = some (.int .i64 ((c.at_ : Int) + (k : Int))) := HC1.out.at 1 rfl
    go_quiet (fail)
    go_wp2_with fail
    go_ret
    exact HP1.out _
end Go.Proofs.Ytgljhfofikjbdaa
/- the walk of the reference's check of a cell -/
namespace Go.Proofs.Ytgljhfofikjbdaa
open Go.RowKit

set_option maxHeartbeats 400000 in
theorem rvalidCell (st : Bool) (d : ByteArray) (w : World) (hs : d.size ≤ maxLen) :
    Calls Try.prog 60 #[.agg #[.bool st, .string d]] w fun e w' => e = .returned (.bool (cellOkB ⟨st, d⟩)) ∧ Below w.heap.size w w' := by
  unfold maxLen at hs
  unfold cellOkB
  simp only
  have fin : Below w.heap.size w (w.alloc (.cells #[.bool st, .string d] 24)) := (Below.refl _ _).alloc (Nat.le_refl _) _
  by_cases h1 : d.size ≤ 12
  · have d1 : decide ((d.size : Int) ≤ 12) = true := by simp; omega
    cases st
    · have hd : d.toList.isEmpty = decide (d.size = 0) := by
        rw [ByteArray.toList_eq, Bool.eq_iff_iff, List.isEmpty_iff, decide_eq_true_iff, ← size_list]
        exact List.length_eq_zero_iff.symm
      cases h0 : decide (d.size = 0)
      · rw [h0] at hd
        go_enter Try.func60, Try.ntmps60
        go_wp2
        go_ret
        exact ⟨by simp [h1], fin⟩
      · rw [h0] at hd
        go_enter Try.func60, Try.ntmps60
        go_wp2
        go_ret
        exact ⟨by simp [h1], fin⟩
    · go_enter Try.func60, Try.ntmps60
      go_wp2
      go_ret
      exact ⟨by simp [h1], fin⟩
  · have d1 : decide ((d.size : Int) ≤ 12) = false := by simp; omega
    go_enter Try.func60, Try.ntmps60
    go_wp2
    go_ret
    exact ⟨by simp [h1], fin⟩
end Go.Proofs.Ytgljhfofikjbdaa
/- the walks of Valid of changes, the program's and the reference's -/
namespace Go.Proofs.Ytgljhfofikjbdaa
open Go.RowKit

set_option maxHeartbeats 400000 in
theorem validPage_any (n : Int) (w : World) : Calls Try.prog 57 #[.int .i64 n] w fun e w' => e = .returned (.bool (decide (0 ≤ n) && decide (n < 64))) ∧ w = w' := by
  by_cases h0 : 0 ≤ n
  · by_cases h1 : n < 64
    all_goals
      go_enter Try.func57, Try.ntmps57
      go_wp2
      go_ret
      exact ⟨ret_bool (by simp; omega), rfl⟩
  · go_enter Try.func57, Try.ntmps57
    go_wp2
    go_ret
    exact ⟨ret_bool (by simp; omega), rfl⟩
set_option maxHeartbeats 400000 in
theorem validSlot_any (n : Int) (w : World) : Calls Try.prog 58 #[.int .i64 n] w fun e w' => e = .returned (.bool (decide (0 ≤ n) && decide (n < 16))) ∧ w = w' := by
  by_cases h0 : 0 ≤ n
  · by_cases h1 : n < 16
    all_goals
      go_enter Try.func58, Try.ntmps58
      go_wp2
      go_ret
      exact ⟨ret_bool (by simp; omega), rfl⟩
  · go_enter Try.func58, Try.ntmps58
    go_wp2
    go_ret
    exact ⟨ret_bool (by simp; omega), rfl⟩
set_option maxHeartbeats 400000 in
theorem chCell_any (st : Bool) (d : ByteArray) (w : World) (hs : d.size ≤ maxLen) :
    Calls Try.prog 59 #[.agg #[.bool st, .string d]] w fun e w' => e = .returned (.bool (cellOkB ⟨st, d⟩)) ∧ Below w.heap.size w w' := by
  unfold maxLen at hs
  unfold cellOkB
  simp only
  have fin : Below w.heap.size w (w.alloc (.cells #[.bool st, .string d] 24)) := (Below.refl _ _).alloc (Nat.le_refl _) _
  cases st
  · have hd : d.toList.isEmpty = decide (d.size = 0) := by
      rw [ByteArray.toList_eq, Bool.eq_iff_iff, List.isEmpty_iff, decide_eq_true_iff, ← size_list]
      exact List.length_eq_zero_iff.symm
    cases h0 : decide (d.size = 0)
    all_goals
      rw [h0] at hd
      go_enter Try.func59, Try.ntmps59
      go_wp2
      go_ret
      refine ⟨ret_bool ?_, fin⟩
      first | (simp; done) | (have := of_decide_eq_true h0; simp [this]; done)
  · go_enter Try.func59, Try.ntmps59
    go_wp2
    go_ret
    refine ⟨ret_bool ?_, fin⟩
    simp
    omega
set_option maxHeartbeats 1000000 in
theorem valid_ch (c : Chg) (w : World) (hb : c.before.data.size ≤ maxLen) (ha : c.after.data.size ≤ maxLen) :
    Calls Try.prog 48 #[.agg (chCells c).toArray] w fun e w' => e = .returned (.bool (chOkB c)) ∧ Below w.heap.size w w' := by
  obtain ⟨pg, sl, ⟨ys, yd⟩, ⟨zs, zd⟩⟩ := c
  have HO : Hid (Ob.In ⟨w.heap.size, 26, chCells ⟨pg, sl, ⟨ys, yd⟩, ⟨zs, zd⟩⟩⟩ (w.alloc (.cells #[.int .i64 pg, .int .i64 sl, .bool ys, .string yd, .bool zs, .string zd] 26))) := heap_alloc_last w _
  have HB : Hid (Below w.heap.size w (w.alloc (.cells #[.int .i64 pg, .int .i64 sl, .bool ys, .string yd, .bool zs, .string zd] 26))) := (Below.refl _ _).alloc (Nat.le_refl _) _
  have hz : w.heap.size < (w.alloc (.cells #[.int .i64 pg, .int .i64 sl, .bool ys, .string yd, .bool zs, .string zd] 26)).heap.size := by simp
  have HZ := Lib.hid hz
  clear hz
  unfold chCells chOkB
  simp only at hb ha ⊢
  cases hp : (decide (0 ≤ pg) && decide (pg < 64))
  · go_enter Try.func48, Try.ntmps48
    go_wp2_with (go_at_call 57; refine (validPage_any _ _).mono ?_; rintro e w' ⟨rfl, rfl⟩)
    go_ret
    exact ⟨ret_bool (by rw [← Bool.and_assoc, hp]; rfl), HB.out⟩
  cases hq : (decide (0 ≤ sl) && decide (sl < 16))
  · go_enter Try.func48, Try.ntmps48
    go_wp2_with (first | (go_at_call 57; refine (validPage_any _ _).mono ?_; rintro e w' ⟨rfl, rfl⟩) | (go_at_call 58; refine (validSlot_any _ _).mono ?_; rintro e w' ⟨rfl, rfl⟩))
    go_ret
    exact ⟨ret_bool (by rw [← Bool.and_assoc, hp, ← Bool.and_assoc (decide (0 ≤ sl)), hq]; rfl), HB.out⟩
  · go_enter Try.func48, Try.ntmps48
    go_wp2_with (first | (go_at_call 57; refine (validPage_any _ _).mono ?_; rintro e w' ⟨rfl, rfl⟩) | (go_at_call 58; refine (validSlot_any _ _).mono ?_; rintro e w' ⟨rfl, rfl⟩))
    refine (chCell_any ys yd _ hb).mono ?_
    rintro e w2 ⟨rfl, hb2⟩
    have HO2 := Lib.hid (HO.out.calls hb2)
    have HB2 := Lib.hid (HB.out.trans (hb2.mono (Nat.le_of_lt HZ.out)))
    have c4 : w2.cell? ⟨w.heap.size, 4, none⟩ = some (.bool zs) := HO2.out.at 4 rfl
    have c5 : w2.cell? ⟨w.heap.size, 5, none⟩ = some (.string zd) := HO2.out.at 5 rfl
    clear hb2
    cases hv : cellOkB ⟨ys, yd⟩
    · go_wp2_with fail
      go_ret
      exact ⟨ret_bool (by rw [← Bool.and_assoc, hp, ← Bool.and_assoc (decide (0 ≤ sl)), hq, hv]; rfl), HB2.out⟩
    · go_wp2_with fail
      refine (chCell_any zs zd _ ha).mono ?_
      rintro e w3 ⟨rfl, hb3⟩
      have HB3 := Lib.hid (HB2.out.trans (hb3.mono HB2.out.size))
      clear hb3
      cases hy : cellOkB ⟨zs, zd⟩
      all_goals
        go_wp2_with fail
        go_ret
        exact ⟨ret_bool (by rw [← Bool.and_assoc, hp, ← Bool.and_assoc (decide (0 ≤ sl)), hq, hv, hy]; rfl), HB3.out⟩
set_option maxHeartbeats 1000000 in
theorem rvalid_ch (c : Chg) (w : World) (hb : c.before.data.size ≤ maxLen) (ha : c.after.data.size ≤ maxLen) :
    Calls Try.prog 52 #[.agg (chCells c).toArray] w fun e w' => e = .returned (.bool (chOkB c)) ∧ Below w.heap.size w w' := by
  obtain ⟨pg, sl, ⟨ys, yd⟩, ⟨zs, zd⟩⟩ := c
  have HO : Hid (Ob.In ⟨w.heap.size, 26, chCells ⟨pg, sl, ⟨ys, yd⟩, ⟨zs, zd⟩⟩⟩ (w.alloc (.cells #[.int .i64 pg, .int .i64 sl, .bool ys, .string yd, .bool zs, .string zd] 26))) := heap_alloc_last w _
  have HB : Hid (Below w.heap.size w (w.alloc (.cells #[.int .i64 pg, .int .i64 sl, .bool ys, .string yd, .bool zs, .string zd] 26))) := (Below.refl _ _).alloc (Nat.le_refl _) _
  have hz : w.heap.size < (w.alloc (.cells #[.int .i64 pg, .int .i64 sl, .bool ys, .string yd, .bool zs, .string zd] 26)).heap.size := by simp
  have HZ := Lib.hid hz
  clear hz
  unfold chCells chOkB
  simp only at hb ha ⊢
  by_cases h0 : 0 ≤ pg ∧ pg < 64 ∧ 0 ≤ sl ∧ sl < 16
  · obtain ⟨h0, h1, h2, h3⟩ := h0
    go_enter Try.func52, Try.ntmps52
    go_wp2_with fail
    refine (rvalidCell ys yd _ hb).mono ?_
    rintro e w2 ⟨rfl, hb2⟩
    have HO2 := Lib.hid (HO.out.calls hb2)
    have HB2 := Lib.hid (HB.out.trans (hb2.mono (Nat.le_of_lt HZ.out)))
    have c4 : w2.cell? ⟨w.heap.size, 4, none⟩ = some (.bool zs) := HO2.out.at 4 rfl
    have c5 : w2.cell? ⟨w.heap.size, 5, none⟩ = some (.string zd) := HO2.out.at 5 rfl
    clear hb2
    cases hv : cellOkB ⟨ys, yd⟩
    · go_wp2_with fail
      go_ret
      exact ⟨ret_bool (by simp [hv]), HB2.out⟩
    · go_wp2_with fail
      refine (rvalidCell zs zd _ ha).mono ?_
      rintro e w3 ⟨rfl, hb3⟩
      have HB3 := Lib.hid (HB2.out.trans (hb3.mono HB2.out.size))
      clear hb3
      cases hy : cellOkB ⟨zs, zd⟩
      all_goals
        go_wp2_with fail
        go_ret
        exact ⟨ret_bool (by simp [h0, h1, h2, h3, hv, hy]), HB3.out⟩
  · have HN := Lib.hid h0
    clear h0
    have fin : (decide (0 ≤ pg) && (decide (pg < 64) && (decide (0 ≤ sl) && (decide (sl < 16) && (cellOkB ⟨ys, yd⟩ && cellOkB ⟨zs, zd⟩))))) = false := by
      rw [Bool.eq_false_iff]
      intro h
      simp at h
      exact HN.out ⟨h.1, h.2.1, h.2.2.1, h.2.2.2.1⟩
    rw [fin]
    clear fin
    by_cases h0 : 0 ≤ pg
    · by_cases h1 : pg < 64
      · by_cases h2 : 0 ≤ sl
        · have h3 : ¬ sl < 16 := fun h => HN.out ⟨h0, h1, h2, h⟩
          go_enter Try.func52, Try.ntmps52
          go_wp2_with fail
          go_ret
          exact ⟨rfl, HB.out⟩
        · go_enter Try.func52, Try.ntmps52
          go_wp2_with fail
          go_ret
          exact ⟨rfl, HB.out⟩
      · go_enter Try.func52, Try.ntmps52
        go_wp2_with fail
        go_ret
        exact ⟨rfl, HB.out⟩
    · go_enter Try.func52, Try.ntmps52
      go_wp2_with fail
      go_ret
      exact ⟨rfl, HB.out⟩
end Go.Proofs.Ytgljhfofikjbdaa
/- the walks of the functions that a rule of entries is made of -/
namespace Go.Proofs.Ytgljhfofikjbdaa
open Go.RowKit
set_option maxRecDepth 20000
set_option linter.unusedSimpArgs false
set_option linter.unusedVariables false

theorem beq_dec (a b : Int) : (a == b) = decide (a = b) := by rw [Bool.eq_iff_iff]; simp
theorem isEmpty_dec (s : ByteArray) : s.toList.isEmpty = decide (s.size = 0) := by
  rw [ByteArray.toList_eq, Bool.eq_iff_iff, List.isEmpty_iff, decide_eq_true_iff, ← size_list]
  exact List.length_eq_zero_iff.symm
set_option maxHeartbeats 400000 in
theorem zero_f (n : Int) (w : World) : Calls Try.prog 42 #[.int .i64 n] w fun e w' => e = .returned (.bool (zeroB n)) ∧ w = w' := by
  go_enter Try.func42, Try.ntmps42
  go_wp2
  go_ret
  exact ⟨ret_bool (by first | rfl | exact beq_dec _ _ | simp [zeroB]), rfl⟩
set_option maxHeartbeats 400000 in
theorem positive_f (n : Int) (w : World) : Calls Try.prog 41 #[.int .i64 n] w fun e w' => e = .returned (.bool (posB n)) ∧ w = w' := by
  go_enter Try.func41, Try.ntmps41
  go_wp2
  go_ret
  exact ⟨ret_bool (by first | rfl | simp [posB]), rfl⟩
set_option maxHeartbeats 400000 in
theorem anyNumber_f (n : Int) (w : World) : Calls Try.prog 47 #[.int .i64 n] w fun e w' => e = .returned (.bool (anyB n)) ∧ w = w' := by
  go_enter Try.func47, Try.ntmps47
  go_wp2
  go_ret
  exact ⟨ret_bool (by rfl), rfl⟩
set_option maxHeartbeats 400000 in
theorem isTx_f (n : Int) (w : World) : Calls Try.prog 40 #[.int .i64 n] w fun e w' => e = .returned (.bool (isTxB n)) ∧ w = w' := by
  by_cases h0 : 1 ≤ n
  · by_cases h1 : n ≤ 1073741824
    all_goals
      go_enter Try.func40, Try.ntmps40
      go_wp2
      go_ret
      exact ⟨ret_bool (by simp [isTxB]; omega), rfl⟩
  · go_enter Try.func40, Try.ntmps40
    go_wp2
    go_ret
    exact ⟨ret_bool (by simp [isTxB]; omega), rfl⟩
set_option maxHeartbeats 400000 in
theorem noRef_f (n m : Int) (w : World) : Calls Try.prog 43 #[.int .i64 n, .int .i64 m] w fun e w' => e = .returned (.bool (noRefB n m)) ∧ w = w' := by
  go_enter Try.func43, Try.ntmps43
  go_wp2
  go_ret
  exact ⟨ret_bool (by first | rfl | exact beq_dec _ _ | simp [noRefB]), rfl⟩
set_option maxHeartbeats 400000 in
theorem anyRef_f (n m : Int) (w : World) : Calls Try.prog 50 #[.int .i64 n, .int .i64 m] w fun e w' => e = .returned (.bool (anyRefB n m)) ∧ w = w' := by
  go_enter Try.func50, Try.ntmps50
  go_wp2
  go_ret
  exact ⟨ret_bool (by rfl), rfl⟩
set_option maxHeartbeats 400000 in
theorem upTo_f (n m : Int) (w : World) : Calls Try.prog 49 #[.int .i64 n, .int .i64 m] w fun e w' => e = .returned (.bool (upB n m)) ∧ w = w' := by
  by_cases h0 : 1 ≤ n
  · by_cases h1 : n ≤ m
    all_goals
      go_enter Try.func49, Try.ntmps49
      go_wp2
      go_ret
      exact ⟨ret_bool (by simp [upB]; omega), rfl⟩
  · go_enter Try.func49, Try.ntmps49
    go_wp2
    go_ret
    exact ⟨ret_bool (by simp [upB]; omega), rfl⟩
set_option maxHeartbeats 400000 in
theorem before_f (n m : Int) (w : World) : Calls Try.prog 31 #[.int .i64 n, .int .i64 m] w fun e w' => e = .returned (.bool (befB n m)) ∧ w = w' := by
  by_cases h0 : 0 ≤ n
  · by_cases h1 : n < m
    all_goals
      go_enter Try.func31, Try.ntmps31
      go_wp2
      go_ret
      exact ⟨ret_bool (by simp [befB]; omega), rfl⟩
  · go_enter Try.func31, Try.ntmps31
    go_wp2
    go_ret
    exact ⟨ret_bool (by simp [befB]; omega), rfl⟩
set_option maxHeartbeats 400000 in
theorem rbefore_f (n m : Int) (w : World) : Calls Try.prog 33 #[.int .i64 n, .int .i64 m] w fun e w' => e = .returned (.bool (befB n m)) ∧ w = w' := by
  by_cases h0 : 0 ≤ n
  · by_cases h1 : n < m
    all_goals
      go_enter Try.func33, Try.ntmps33
      go_wp2
      go_ret
      exact ⟨ret_bool (by simp [befB]; omega), rfl⟩
  · go_enter Try.func33, Try.ntmps33
    go_wp2
    go_ret
    exact ⟨ret_bool (by simp [befB]; omega), rfl⟩
set_option maxHeartbeats 400000 in
theorem noBlob_f (s : ByteArray) (w : World) (hs : s.size ≤ maxLen) : Calls Try.prog 45 #[.string s] w fun e w' => e = .returned (.bool (noBlobB s)) ∧ w = w' := by
  have HQ : Hid (decide (s = ByteArray.empty) = noBlobB s) := Lib.hid (by unfold noBlobB; rw [Bool.eq_iff_iff, decide_eq_true_iff, decide_eq_true_iff, size_zero]; exact Iff.rfl)
  go_enter Try.func45, Try.ntmps45
  go_wp2
  go_ret
  exact ⟨ret_bool (by first | exact isEmpty_dec s | exact HQ.out), rfl⟩
set_option maxHeartbeats 400000 in
theorem validBlob_f (s : ByteArray) (w : World) (hs : s.size ≤ maxLen) : Calls Try.prog 46 #[.string s] w fun e w' => e = .returned (.bool (blobB s)) ∧ w = w' := by
  unfold maxLen at hs
  go_enter Try.func46, Try.ntmps46
  go_wp2
  go_ret
  exact ⟨ret_bool (by simp [blobB]; omega), rfl⟩
set_option maxHeartbeats 400000 in
theorem noChange_f (c : Chg) (w : World) (hc : GoodCh c) : Calls Try.prog 44 #[.agg (chCells c).toArray] w fun e w' => e = .returned (.bool (noChB c)) ∧ Below w.heap.size w w' := by
  have hq : ∀ W, Sem.run Try.prog (binOp .eql 26 (.agg #[.int .i64 c.page, .int .i64 c.slot, .bool c.before.set, .string c.before.data, .bool c.after.set, .string c.after.data]) (.agg #[.int .i64 0, .int .i64 0, .bool false, .string ⟨#[]⟩, .bool false, .string ⟨#[]⟩])) W = .ok (.bool (sameV c chNil)) W := fun W => run_eql (equal_ch c chNil hc nil_good) W
  have HB : Hid (Below w.heap.size w (w.alloc (.cells #[.int .i64 c.page, .int .i64 c.slot, .bool c.before.set, .string c.before.data, .bool c.after.set, .string c.after.data] 26))) := (Below.refl _ _).alloc (Nat.le_refl _) _
  clear hc
  unfold chCells noChB
  go_enter Try.func44, Try.ntmps44
  go_wp2
  go_ret
  exact ⟨rfl, HB.out⟩
set_option maxHeartbeats 1000000 in
theorem pageAlone_f (c : Chg) (w : World) (hc : GoodCh c) : Calls Try.prog 51 #[.agg (chCells c).toArray] w fun e w' => e = .returned (.bool (aloneB c)) ∧ Below w.heap.size w w' := by
  have hq : ∀ W, Sem.run Try.prog (binOp .eql 26 (.agg #[.int .i64 c.page, .int .i64 c.slot, .bool c.before.set, .string c.before.data, .bool c.after.set, .string c.after.data]) (.agg #[.int .i64 c.page, .int .i64 0, .bool false, .string ⟨#[]⟩, .bool false, .string ⟨#[]⟩])) W = .ok (.bool (sameV c ⟨c.page, 0, emptyCl, emptyCl⟩)) W := fun W => run_eql (equal_ch c ⟨c.page, 0, emptyCl, emptyCl⟩ hc ⟨hc.page, by show (Lit.int .i64 0).wf = true; decide, by show emptyS.size ≤ maxLen; decide, by show emptyS.size ≤ maxLen; decide⟩) W
  have HB : Hid (Below w.heap.size w (w.alloc (.cells #[.int .i64 c.page, .int .i64 c.slot, .bool c.before.set, .string c.before.data, .bool c.after.set, .string c.after.data] 26))) := (Below.refl _ _).alloc (Nat.le_refl _) _
  have HZ := Lib.hid (show w.heap.size < (w.alloc (.cells #[.int .i64 c.page, .int .i64 c.slot, .bool c.before.set, .string c.before.data, .bool c.after.set, .string c.after.data] 26)).heap.size by simp)
  have HV : Hid (∀ W, Calls Try.prog 48 #[.agg (chCells c).toArray] W fun e w' => e = .returned (.bool (chOkB c)) ∧ Below W.heap.size W w') := fun W => valid_ch c W hc.before hc.after
  clear hc
  unfold chCells at HV ⊢
  unfold aloneB
  generalize sameV c ⟨c.page, 0, emptyCl, emptyCl⟩ = b at *
  cases b
  · go_enter Try.func51, Try.ntmps51
    go_wp2
    go_ret
    exact ⟨rfl, HB.out⟩
  · go_enter Try.func51, Try.ntmps51
    go_wp2_with fail
    refine (HV.out _).mono ?_
    rintro e w2 ⟨rfl, hb⟩
    go_wp2_with fail
    go_ret
    exact ⟨rfl, HB.out.trans (hb.mono (Nat.le_of_lt HZ.out))⟩
/-! Changes -/
def changesB (e : Ent) : Bool := decide (e.kind = 1) || decide (e.kind = 2)
set_option maxHeartbeats 1000000 in
theorem changes_any (e : Ent) (w : World) : Calls Try.prog 16 #[.agg (enCells e).toArray] w fun r w' => r = .returned (.bool (changesB e)) ∧ Below w.heap.size w w' := by
  have HB : Hid (∀ cs, Below w.heap.size w (w.alloc (.cells cs 28))) := fun cs => (Below.refl _ _).alloc (Nat.le_refl _) _
  unfold enCells changesB
  cases h1 : decide (e.kind = 1)
  · have h2 := beq_dec e.kind 1
    rw [h1] at h2
    have h3 := beq_dec e.kind 2
    clear h1
    go_enter Try.func16, Try.ntmps16
    go_wp2
    go_ret
    exact ⟨ret_bool (by simp), HB.out _⟩
  · have h2 := beq_dec e.kind 1
    rw [h1] at h2
    clear h1
    go_enter Try.func16, Try.ntmps16
    go_wp2
    go_ret
    exact ⟨ret_bool (by simp), HB.out _⟩
set_option maxHeartbeats 1000000 in
theorem rchanges_any (e : Ent) (w : World) : Calls Try.prog 17 #[.agg (enCells e).toArray] w fun r w' => r = .returned (.bool (changesB e)) ∧ Below w.heap.size w w' := by
  have HB : Hid (∀ cs, Below w.heap.size w (w.alloc (.cells cs 28))) := fun cs => (Below.refl _ _).alloc (Nat.le_refl _) _
  unfold enCells changesB
  cases h1 : decide (e.kind = 1)
  · have h2 := beq_dec e.kind 1
    rw [h1] at h2
    have h3 := beq_dec e.kind 2
    clear h1
    go_enter Try.func17, Try.ntmps17
    go_wp2
    go_ret
    exact ⟨ret_bool (by simp), HB.out _⟩
  · have h2 := beq_dec e.kind 1
    rw [h1] at h2
    clear h1
    go_enter Try.func17, Try.ntmps17
    go_wp2
    go_ret
    exact ⟨ret_bool (by simp), HB.out _⟩
/-! rules -/
def EntersF (g : Nat) : Prop := ∀ args w, (callFunc g args).run Try.prog w = .ok (.enter g args) w
structure RuleG where
  g0 : Nat
  g1 : Nat
  g2 : Nat
  g3 : Nat
  g4 : Nat
  g5 : Nat
def fv (g : Nat) : Value := .func (.func g) #[] #[]
def ruleCells (r : RuleG) : List Value := [fv r.g0, fv r.g1, fv r.g2, fv r.g3, fv r.g4, fv r.g5]
/-- what the functions of a rule answer -/
structure RuleIs (r : RuleF) (g : RuleG) : Prop where
  e0 : EntersF g.g0
  e1 : EntersF g.g1
  e2 : EntersF g.g2
  e3 : EntersF g.g3
  e4 : EntersF g.g4
  e5 : EntersF g.g5
  c0 : ∀ n W, Calls Try.prog g.g0 #[.int .i64 n] W fun e W' => e = .returned (.bool (r.p0 n)) ∧ W = W'
  c1 : ∀ n W, Calls Try.prog g.g1 #[.int .i64 n] W fun e W' => e = .returned (.bool (r.p1 n)) ∧ W = W'
  c2 : ∀ n W, Calls Try.prog g.g2 #[.int .i64 n] W fun e W' => e = .returned (.bool (r.p2 n)) ∧ W = W'
  c3 : ∀ n m W, Calls Try.prog g.g3 #[.int .i64 n, .int .i64 m] W fun e W' => e = .returned (.bool (r.p3 n m)) ∧ W = W'
  c4 : ∀ c W, GoodCh c → Calls Try.prog g.g4 #[.agg (chCells c).toArray] W fun e W' => e = .returned (.bool (r.p4 c)) ∧ Below W.heap.size W W'
  c5 : ∀ s W, s.size ≤ maxLen → Calls Try.prog g.g5 #[.string s] W fun e W' => e = .returned (.bool (r.p5 s)) ∧ W = W'
theorem enters_zero : EntersF 42 := enters_of Try.func42 (by kernel_rfl) rfl
theorem enters_positive : EntersF 41 := enters_of Try.func41 (by kernel_rfl) rfl
theorem enters_anyNumber : EntersF 47 := enters_of Try.func47 (by kernel_rfl) rfl
theorem enters_isTx : EntersF 40 := enters_of Try.func40 (by kernel_rfl) rfl
theorem enters_noRef : EntersF 43 := enters_of Try.func43 (by kernel_rfl) rfl
theorem enters_anyRef : EntersF 50 := enters_of Try.func50 (by kernel_rfl) rfl
theorem enters_upToPrevTx : EntersF 49 := enters_of Try.func49 (by kernel_rfl) rfl
theorem enters_noChange : EntersF 44 := enters_of Try.func44 (by kernel_rfl) rfl
theorem enters_pageAlone : EntersF 51 := enters_of Try.func51 (by kernel_rfl) rfl
theorem enters_noBlob : EntersF 45 := enters_of Try.func45 (by kernel_rfl) rfl
theorem enters_validBlob : EntersF 46 := enters_of Try.func46 (by kernel_rfl) rfl
theorem enters_Valid : EntersF 48 := enters_of Try.func48 (by kernel_rfl) rfl
def changeG : RuleG := ⟨40, 47, 47, 43, 48, 45⟩
def undoG : RuleG := ⟨40, 41, 47, 49, 48, 45⟩
def markG : RuleG := ⟨40, 41, 42, 43, 44, 45⟩
def textG : RuleG := ⟨42, 42, 42, 43, 44, 46⟩
def indexG : RuleG := ⟨42, 42, 42, 50, 51, 45⟩
def tabG : List RuleG := [changeG, undoG, markG, markG, markG, textG, indexG, textG]
theorem tab_is (k : Nat) (h1 : 1 ≤ k) (h8 : k ≤ 8) : ∃ g, tabG[k - 1]? = some g ∧ RuleIs (ruleF (k : Int)) g := by
  match k, h1, h8 with
  | 1, _, _ => exact ⟨changeG, rfl, ⟨enters_isTx, enters_anyNumber, enters_anyNumber, enters_noRef, enters_Valid, enters_noBlob, fun n W => isTx_f n W, fun n W => anyNumber_f n W, fun n W => anyNumber_f n W, fun n m W => noRef_f n m W, fun c W h => valid_ch c W h.before h.after, fun s W h => noBlob_f s W h⟩⟩
  | 2, _, _ => exact ⟨undoG, rfl, ⟨enters_isTx, enters_positive, enters_anyNumber, enters_upToPrevTx, enters_Valid, enters_noBlob, fun n W => isTx_f n W, fun n W => positive_f n W, fun n W => anyNumber_f n W, fun n m W => upTo_f n m W, fun c W h => valid_ch c W h.before h.after, fun s W h => noBlob_f s W h⟩⟩
  | 3, _, _ => exact ⟨markG, rfl, ⟨enters_isTx, enters_positive, enters_zero, enters_noRef, enters_noChange, enters_noBlob, fun n W => isTx_f n W, fun n W => positive_f n W, fun n W => zero_f n W, fun n m W => noRef_f n m W, fun c W h => noChange_f c W h, fun s W h => noBlob_f s W h⟩⟩
  | 4, _, _ => exact ⟨markG, rfl, ⟨enters_isTx, enters_positive, enters_zero, enters_noRef, enters_noChange, enters_noBlob, fun n W => isTx_f n W, fun n W => positive_f n W, fun n W => zero_f n W, fun n m W => noRef_f n m W, fun c W h => noChange_f c W h, fun s W h => noBlob_f s W h⟩⟩
  | 5, _, _ => exact ⟨markG, rfl, ⟨enters_isTx, enters_positive, enters_zero, enters_noRef, enters_noChange, enters_noBlob, fun n W => isTx_f n W, fun n W => positive_f n W, fun n W => zero_f n W, fun n m W => noRef_f n m W, fun c W h => noChange_f c W h, fun s W h => noBlob_f s W h⟩⟩
  | 6, _, _ => exact ⟨textG, rfl, ⟨enters_zero, enters_zero, enters_zero, enters_noRef, enters_noChange, enters_validBlob, fun n W => zero_f n W, fun n W => zero_f n W, fun n W => zero_f n W, fun n m W => noRef_f n m W, fun c W h => noChange_f c W h, fun s W h => validBlob_f s W h⟩⟩
  | 7, _, _ => exact ⟨indexG, rfl, ⟨enters_zero, enters_zero, enters_zero, enters_anyRef, enters_pageAlone, enters_noBlob, fun n W => zero_f n W, fun n W => zero_f n W, fun n W => zero_f n W, fun n m W => anyRef_f n m W, fun c W h => pageAlone_f c W h, fun s W h => noBlob_f s W h⟩⟩
  | 8, _, _ => exact ⟨textG, rfl, ⟨enters_zero, enters_zero, enters_zero, enters_noRef, enters_noChange, enters_validBlob, fun n W => zero_f n W, fun n W => zero_f n W, fun n W => zero_f n W, fun n m W => noRef_f n m W, fun c W h => noChange_f c W h, fun s W h => validBlob_f s W h⟩⟩
end Go.Proofs.Ytgljhfofikjbdaa
