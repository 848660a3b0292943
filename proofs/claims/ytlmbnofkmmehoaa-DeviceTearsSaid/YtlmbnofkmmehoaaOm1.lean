/- texts of a claim, one after the other: the choices of the drawing package: what Next gives lies in its range, and nothing but the place in the codes is changed, numbers as bytes, texts, and small facts on conversions: no walk, the choices of the drawing package: New and Spoilt, small things about memory that all texts use, what all laws begin with: the choices, objects in memory, and what a walk keeps of them -/
import Derived.Test.YtlmbnofkmmehoaaRows
import Derived.WalkKit
import Derived.WalkSpells
import Derived.WalkLawsBesides
import Derived.Lib.Hide
import Derived.Below
import Derived.RegionTactic
import Derived.ChangeAlike
import Derived.Deep.QuietTactic
import Derived.BigQuiet
import Derived.LoopN
import Derived.ProofKit
import Derived.OpenShut
import Derived.Deep.MidRow
import Derived.Deep.OwnRows
import Derived.Laws.CopyOwn
import Derived.KernelRfl
import Derived.BigRegion
import Derived.Deep.RegionWith
import Derived.Deep.RegionHeld3
import Derived.Deep.WholeRow
import Derived.Laws.ResultCell
/- the choices of the drawing package: what Next gives lies in its range, and nothing but the place in the codes is changed -/
namespace Go.Proofs.Ytlmbnofkmmehoaa
open Go.RowKit
set_option maxRecDepth 20000

/-- nothing that was there is changed, but for block C -/
structure Besides (C : Nat) (w w' : World) : Prop where
  os : w'.os = w.os
  tape : w'.tape = w.tape
  output : w'.output = w.output
  size : w.heap.size ≤ w'.heap.size
  block : ∀ k, k < w.heap.size → k ≠ C → w'.heap[k]? = w.heap[k]?
  head : C < w.heap.size → w'.cell? ⟨C, 0, none⟩ = w.cell? ⟨C, 0, none⟩
theorem Besides.refl (C : Nat) (w : World) : Besides C w w := ⟨rfl, rfl, rfl, Nat.le_refl _, fun _ _ _ => rfl, fun _ => rfl⟩
theorem Besides.trans {C : Nat} {a b c : World} (h : Besides C a b) (k : Besides C b c) : Besides C a c :=
  ⟨k.os.trans h.os, k.tape.trans h.tape, k.output.trans h.output, Nat.le_trans h.size k.size, fun i hi hC => (k.block i (Nat.lt_of_lt_of_le hi h.size) hC).trans (h.block i hi hC), fun hC => (k.head (Nat.lt_of_lt_of_le hC h.size)).trans (h.head hC)⟩
theorem Besides.of_below {C : Nat} {w w' : World} (h : Below w.heap.size w w') : Besides C w w' := ⟨h.os, h.tape, h.output, h.size, fun k hk _ => h.block k hk, fun hC => World.cell?_of_block (a := ⟨C, 0, none⟩) (h.block C hC)⟩
theorem Besides.below {C B : Nat} {w w' : World} (h : Besides C w w') (hC : B ≤ C) (hB : B ≤ w.heap.size) : Below B w w' := ⟨h.os, h.tape, h.output, h.size, fun k hk => h.block k (by omega) (by omega)⟩
theorem Besides.cell {C : Nat} {w w' : World} (h : Besides C w w') {p : Addr} (hp : p.block < w.heap.size) (hC : p.block ≠ C) : w'.cell? p = w.cell? p := World.cell?_of_block (h.block p.block hp hC)
theorem Besides.frozen {C : Nat} {w w' : World} (h : Besides C w w') {p : Addr} (hp : p.block < w.heap.size) (hC : p.block ≠ C) : w'.frozen? p = w.frozen? p := World.frozen?_of_block (h.block p.block hp hC)
theorem Besides.drewN {C : Nat} {a w : World} (h : Besides C a w) (n : Nat) : Besides C a (w.drewN n) := ⟨h.os, h.tape, h.output, h.size, h.block, h.head⟩
theorem Besides.drew {C : Nat} {a w : World} (h : Besides C a w) : Besides C a w.drew := ⟨h.os, h.tape, h.output, h.size, h.block, h.head⟩
theorem Besides.alloc {C : Nat} {a w : World} (h : Besides C a w) (o : Obj) : Besides C a (w.alloc o) :=
  h.trans ⟨rfl, rfl, rfl, by simp, fun k hk _ => Below.heap_alloc _ _ _ hk, fun hC => World.cell?_alloc_lt _ _ _ hC⟩
theorem Besides.set {C : Nat} {a w : World} (h : Besides C a w) (j : Nat) (u : Value) (hj : j ≠ 0) : Besides C a (w.setCell ⟨C, j, none⟩ u) :=
  h.trans ⟨rfl, rfl, rfl, by simp [World.setCell], fun k _ hC => Below.heap_setCell _ _ _ _ hC, fun _ => World.cell?_setCell_other _ _ _ _ (fun e => hj (by injection e))⟩
/-- a value of codes lies at block C -/
def CodesAt (w : World) (C : Nat) (a : Option Addr) (len cap : Nat) (i : Int) : Prop :=
  C < w.heap.size ∧ w.cell? ⟨C, 0, none⟩ = some (.slice a len cap) ∧ w.cell? ⟨C, 1, none⟩ = some (.int .i64 i) ∧ w.frozen? ⟨C, 1, none⟩ = false ∧ 0 ≤ i ∧ i ≤ 9223372036854775806 ∧ len ≤ 4611686018427387904
    ∧ (0 < len → ∃ b off, a = some ⟨b, off, none⟩ ∧ b < C ∧ ∀ j, j < len → ∃ z : Int, w.cell? ⟨b, off + j, none⟩ = some (.int .u8 z) ∧ 0 ≤ z ∧ z ≤ 255)
def CodesOk (w : World) (C : Nat) : Prop := ∃ a len cap i, CodesAt w C a len cap i
/-- codes stay codes while their block and older ones stay -/
theorem CodesAt.keep {w w' : World} {C len cap : Nat} {a : Option Addr} {i : Int} (h : CodesAt w C a len cap i) (hs : w.heap.size ≤ w'.heap.size) (hb : ∀ k, k ≤ C → w'.heap[k]? = w.heap[k]?) : CodesAt w' C a len cap i := by
  obtain ⟨h0, h1, h2, h3, h4, h5, h6, h7⟩ := h
  have cell : ∀ (k j : Nat), k ≤ C → w'.cell? ⟨k, j, none⟩ = w.cell? ⟨k, j, none⟩ := fun k j hk => World.cell?_of_block (a := ⟨k, j, none⟩) (hb k hk)
  refine ⟨by omega, by rw [cell C 0 (Nat.le_refl _), h1], by rw [cell C 1 (Nat.le_refl _), h2], by rw [World.frozen?_of_block (a := ⟨C, 1, none⟩) (hb C (Nat.le_refl _)), h3], h4, h5, h6, fun hl => ?_⟩
  obtain ⟨b, off, ha, hbC, hz⟩ := h7 hl
  exact ⟨b, off, ha, hbC, fun j hj => by rw [cell b (off + j) (by omega)]; exact hz j hj⟩
theorem CodesOk.below {w w' : World} {C B : Nat} (h : CodesOk w C) (hb : Below B w w') (hB : C < B) : CodesOk w' C := by
  obtain ⟨a, len, cap, i, h⟩ := h
  exact ⟨a, len, cap, i, h.keep hb.size (fun k hk => hb.block k (by omega))⟩
theorem CodesOk.drewN {w : World} {C : Nat} (h : CodesOk w C) (n : Nat) : CodesOk (w.drewN n) C := by
  obtain ⟨a, len, cap, i, h⟩ := h
  exact ⟨a, len, cap, i, h.keep (Nat.le_refl _) (fun _ _ => rfl)⟩
theorem CodesOk.lt {w : World} {C : Nat} (h : CodesOk w C) : C < w.heap.size := by
  obtain ⟨a, len, cap, i, h⟩ := h
  exact h.1
theorem CodesOk.drew {w : World} {C : Nat} (h : CodesOk w C) : CodesOk w.drew C := by
  obtain ⟨a, len, cap, i, h⟩ := h
  exact ⟨a, len, cap, i, h.keep (Nat.le_refl _) (fun _ _ => rfl)⟩
/-- the place goes on -/
theorem CodesAt.next {w : World} {C len cap : Nat} {a : Option Addr} {i : Int} (h : CodesAt w C a len cap i) (hi : i < len) : CodesOk (w.setCell ⟨C, 1, none⟩ (.int .i64 (i + 1))) C := by
  obtain ⟨h0, h1, h2, h3, h4, h5, h6, h7⟩ := h
  refine ⟨a, len, cap, i + 1, by simpa using h0, ?_, World.cell?_setCell_same w _ _ h2, by rw [World.frozen?_setCell]; exact h3, by omega, by omega, h6, fun hl => ?_⟩
  · rw [World.cell?_setCell_other w _ _ _ (by intro h; cases h)]; exact h1
  · obtain ⟨b, off, ha, hbC, hz⟩ := h7 hl
    refine ⟨b, off, ha, hbC, fun j hj => ?_⟩
    rw [World.cell?_setCell_other w _ _ _ (by intro h; injection h with h1 _ _; omega)]
    exact hz j hj
/-- what Next leaves -/
def NextPost (C : Nat) (n : Int) (w : World) (e : Ending) (w' : World) : Prop :=
  ∃ x : Int, e = .returned (.int .i64 x) ∧ 0 ≤ x ∧ (x < n ∨ x = 0) ∧ Besides C w w' ∧ CodesOk w' C
set_option maxHeartbeats 400000 in
theorem next_end (C : Nat) (a : Option Addr) (len cap : Nat) (i n : Int) (w : World) (h : CodesAt w C a len cap i) (hz : (len : Int) ≤ i ∨ n < 1) :
    Calls Try.prog 17 #[.pointer (some ⟨C, 0, none⟩), .int .i64 n] w (NextPost C n w) := by
  have HK : Hid (CodesOk w C) := ⟨a, len, cap, i, h⟩
  have h1 := h.2.1
  have h2 := h.2.2.1
  clear h
  by_cases hl : (len : Int) ≤ i
  · have d1 : decide ((len : Int) ≤ i) = true := by simpa using hl
    clear hz
    go_enter Try.func17, Try.ntmps17
    go_wp2
    go_quiet (fail)
    go_wp2
    go_ret
    exact ⟨0, rfl, Int.le_refl _, Or.inr rfl, (Besides.refl _ _).drewN _, HK.out.drewN _⟩
  · have d1 : decide ((len : Int) ≤ i) = false := by simpa using hl
    have hn : n < 1 := by omega
    have d2 : decide (n < 1) = true := by simpa using hn
    clear hz
    go_enter Try.func17, Try.ntmps17
    go_wp2
    go_quiet (fail)
    go_wp2
    go_ret
    exact ⟨0, rfl, Int.le_refl _, Or.inr rfl, (Besides.refl _ _).drewN _, HK.out.drewN _⟩
set_option maxHeartbeats 400000 in
theorem next_small (C : Nat) (n : Int) (w : World) (h : CodesOk w C) (hn : n ≤ 256) :
    Calls Try.prog 17 #[.pointer (some ⟨C, 0, none⟩), .int .i64 n] w (NextPost C n w) := by
  obtain ⟨a, len, cap, i, h⟩ := h
  by_cases hz : (len : Int) ≤ i ∨ n < 1
  · exact next_end C a len cap i n w h hz
  have hi : i < len := by omega
  have h1n : 1 ≤ n := by omega
  have HK : Hid (∀ q : Nat, CodesOk ((w.drewN q).setCell ⟨C, 1, none⟩ (.int .i64 (i + 1))) C) := fun q => (h.keep (w' := w.drewN q) (Nat.le_refl _) (fun _ _ => rfl)).next hi
  obtain ⟨h0, h1, h2, h3, h4, h5, h6, h7⟩ := h
  obtain ⟨b, off, rfl, hbC, hcell⟩ := h7 (by omega)
  obtain ⟨k, rfl⟩ := Int.eq_ofNat_of_zero_le h4
  obtain ⟨z, hzc, z0, z1⟩ := hcell k (by omega)
  clear hcell h7 hz
  have d1 : decide (len ≤ k) = false := by simp; omega
  have d2 : decide (n < 1) = false := by simp; omega
  have hk : (k : Int) < (len : Int) := by omega
  have hk0 : (0 : Int) ≤ (k : Int) := by omega
  have hg : ¬ 256 < n := by omega
  have dz := Int.emod_nonneg z (show n ≠ 0 by omega)
  have dz2 := Int.emod_lt_of_pos z (show 0 < n by omega)
  go_enter Try.func17, Try.ntmps17
  go_wp2
  go_quiet (fail)
  go_wp2
  go_quiet (fail)
  go_wp2
  go_ret
  exact ⟨z % n, rfl, dz, Or.inl dz2, ((Besides.refl _ _).drewN _).set _ _ (by decide), HK.out _⟩
set_option maxHeartbeats 400000 in
theorem next_any (C : Nat) (n : Int) (w : World) (h : CodesOk w C) (hmax : n ≤ 4611686018427387904) :
    Calls Try.prog 17 #[.pointer (some ⟨C, 0, none⟩), .int .i64 n] w (NextPost C n w) := by
  by_cases hn : n ≤ 256
  · exact next_small C n w h hn
  obtain ⟨a, len, cap, i, h⟩ := h
  by_cases hz : (len : Int) ≤ i
  · exact next_end C a len cap i n w h (Or.inl hz)
  have hi : i < len := by omega
  have HK : Hid (∀ q : Nat, CodesOk ((w.drewN q).setCell ⟨C, 1, none⟩ (.int .i64 (i + 1))) C) := fun q => (h.keep (w' := w.drewN q) (Nat.le_refl _) (fun _ _ => rfl)).next hi
  obtain ⟨h0, h1, h2, h3, h4, h5, h6, h7⟩ := h
  obtain ⟨b, off, rfl, hbC, hcell⟩ := h7 (by omega)
  obtain ⟨k, rfl⟩ := Int.eq_ofNat_of_zero_le h4
  obtain ⟨z, hzc, z0, z1⟩ := hcell k (by omega)
  clear hcell h7 hz
  have d1 : decide (len ≤ k) = false := by simp; omega
  have d2 : decide (n < 1) = false := by simp; omega
  have hk : (k : Int) < (len : Int) := by omega
  have hk0 : (0 : Int) ≤ (k : Int) := by omega
  have hg : 256 < n := by omega
  clear hn
  go_enter Try.func17, Try.ntmps17
  go_wp2_with fail
  go_quiet (fail)
  go_wp2_with fail
  go_quiet (fail)
  go_wp2_with fail
  refine (next_small C 256 _ (HK.out _) (by omega)).mono ?_
  rintro e w2 ⟨x, rfl, x0, x1, hb, hc⟩
  have x2 : x ≤ 255 := by omega
  clear x1
  have hn0 : 0 < n := by omega
  have dz := Int.emod_nonneg (256 * z + x) (show n ≠ 0 by omega)
  have dz2 := Int.emod_lt_of_pos (256 * z + x) (show 0 < n by omega)
  go_wp2_with fail
  go_ret
  exact ⟨_, rfl, dz, Or.inl dz2, (((Besides.refl _ _).drewN _).set _ _ (by decide)).trans hb, hc⟩
end Go.Proofs.Ytlmbnofkmmehoaa
/- numbers as bytes, texts, and small facts on conversions: no walk -/
namespace Go.Proofs.Ytlmbnofkmmehoaa
open Go.ChangeShapes Go.WideShapes Go.ChangeAt Go.RowKit


/-- byte k of a number -/
def leB (n : Int) (k : Nat) : UInt8 := UInt8.ofNat (n / 2 ^ (8 * k) % 256).toNat
theorem leB_toNat (n : Int) (k : Nat) : ((leB n k).toNat : Int) = n / 2 ^ (8 * k) % 256 := by
  unfold leB
  have h0 := Int.emod_nonneg (n / 2 ^ (8 * k)) (show (256 : Int) ≠ 0 by decide)
  have h1 := Int.emod_lt_of_pos (n / 2 ^ (8 * k)) (show (0 : Int) < 256 by decide)
  generalize n / 2 ^ (8 * k) % 256 = x at *
  rw [UInt8.toNat_ofNat']
  omega
/-- the lowest k bytes of a number -/
def leL (n : Int) (k : Nat) : List UInt8 := (List.range k).map (leB n)
def leS (n : Int) (k : Nat) : ByteArray := ⟨(leL n k).toArray⟩
theorem leL_length (n : Int) (k : Nat) : (leL n k).length = k := by simp [leL]
theorem leS_size (n : Int) (k : Nat) : (leS n k).size = k := by
  show (leL n k).toArray.size = k
  simp [leL_length]
theorem leL_succ (n : Int) (k : Nat) : leL n (k + 1) = leL n k ++ [leB n k] := by
  unfold leL; rw [List.range_succ, List.map_append]; rfl
theorem leL_getD (n : Int) (k j : Nat) (h : j < k) : (leL n k)[j]'(by rw [leL_length]; exact h) = leB n j := by
  simp [leL]
theorem str_eq {a b : ByteArray} (h : a.data.toList = b.data.toList) : a = b := by
  apply ByteArray.ext; apply Array.toList_inj.1; exact h
theorem str_app (a b : ByteArray) : (a ++ b).data.toList = a.data.toList ++ b.data.toList := by
  rw [ByteArray.data_append, Array.toList_append]
theorem ret_str {a b : ByteArray} (h : a = b) : Ending.returned (.string a) = .returned (.string b) := by rw [h]
theorem byte_of_u64 (n : Int) (k : Nat) (hk : k < 8) : IntKind.u64.wrap n / 2 ^ (8 * k) % 256 = ((leB n k).toNat : Int) := by
  rw [IntKind.wrap_u64, leB_toNat]
  match k, hk with
  | 0, _ => simp only [Nat.mul_zero, Int.pow_zero]; omega
  | 1, _ => simp only [show (2 : Int) ^ (8 * 1) = 256 from by decide]; omega
  | 2, _ => simp only [show (2 : Int) ^ (8 * 2) = 65536 from by decide]; omega
  | 3, _ => simp only [show (2 : Int) ^ (8 * 3) = 16777216 from by decide]; omega
  | 4, _ => simp only [show (2 : Int) ^ (8 * 4) = 4294967296 from by decide]; omega
  | 5, _ => simp only [show (2 : Int) ^ (8 * 5) = 1099511627776 from by decide]; omega
  | 6, _ => simp only [show (2 : Int) ^ (8 * 6) = 281474976710656 from by decide]; omega
  | 7, _ => simp only [show (2 : Int) ^ (8 * 7) = 72057594037927936 from by decide]; omega
/-- a text of one byte -/
theorem conv_one (w : World) (b : UInt8) : Sem.run Try.prog (convert 22 9 (.slice (some ⟨w.heap.size, 0, none⟩) 1 1)) (w.alloc (.cells #[.int .u8 (b.toNat : Int)] 5)) = .ok (.string ⟨#[b]⟩) (w.alloc (.cells #[.int .u8 (b.toNat : Int)] 5)) :=
  run_convert_bytes_back (P := Try.prog) (w.alloc (.cells #[.int .u8 (b.toNat : Int)] 5)) 22 9 5 ⟨w.heap.size, 0, none⟩ 1 [b] Try.underlying22 Try.underlying5 Try.underlying9 (fun j hj => by
    have : j = 0 := by simpa using hj
    subst this
    show (w.alloc _).cell? ⟨w.heap.size, 0, none⟩ = _
    rw [World.cell?_alloc_new]; rfl)
/-- the number in bytes, without a sign -/
def leNum (s : ByteArray) (at_ : Nat) : Nat → Nat
  | 0 => 0
  | k + 1 => leNum s at_ k + (s.data.toList.getD (at_ + k) 0).toNat * 256 ^ k
theorem leNum_lt (s : ByteArray) (at_ k : Nat) : leNum s at_ k < 256 ^ k := by
  induction k with
  | zero => simp [leNum]
  | succ k ih =>
    have hb : (s.data.toList.getD (at_ + k) 0).toNat ≤ 255 := by have := (s.data.toList.getD (at_ + k) 0).toNat_lt; omega
    have hm := Nat.mul_le_mul_right (256 ^ k) hb
    rw [leNum, Nat.pow_succ]
    omega
theorem getD_at (s : ByteArray) (i : Nat) (h : i < s.size) : s.data.toList.getD i 0 = s[i] := by
  have h' : i < s.data.toList.length := by simpa using h
  rw [List.getD_eq_getElem?_getD, List.getElem?_eq_getElem h', Option.getD_some]; rfl
theorem ofInt_wrap (k : IntKind) (x : Int) : BitVec.ofInt k.bits (k.wrap x) = BitVec.ofInt k.bits x := by
  apply BitVec.eq_of_toInt_eq
  rw [BitVec.toInt_ofInt, BitVec.toInt_ofInt]
  have : (k.wrap x) % (2 ^ k.bits : Nat) = x % (2 ^ k.bits : Nat) := by
    unfold IntKind.wrap
    simp only []
    split
    · rw [show ((2 : Int) ^ k.bits) = ((2 ^ k.bits : Nat) : Int) from by simp, Int.sub_emod_right, Int.emod_emod]
    · rw [show ((2 : Int) ^ k.bits) = ((2 ^ k.bits : Nat) : Int) from by simp, Int.emod_emod]
  rw [← Int.emod_bmod, this, Int.emod_bmod]
theorem w64 (n : Int) : IntKind.i64.wrap n = wrap64 n := by rw [IntKind.wrap_i64]; unfold wrap64; rfl
/-- a byte more, by 'or': whatever the kind of 64 bits -/
theorem or_nat (X b k : Nat) (hX : X < 256 ^ k) (hb : b < 256) (hk : k < 8) :
    (BitVec.ofInt 64 (X : Int) ||| BitVec.ofInt 64 ((b : Int) * 2 ^ (8 * k))).toNat = X + b * 256 ^ k := by
  have e1 : (2 : Int) ^ (8 * k) = ((256 ^ k : Nat) : Int) := by
    rw [show (256 : Nat) = 2 ^ 8 from rfl, ← Nat.pow_mul]; simp
  have e2 : (b : Int) * 2 ^ (8 * k) = ((b * 256 ^ k : Nat) : Int) := by rw [e1]; simp
  have hle : 256 ^ k * 256 ≤ 2 ^ 64 := by
    have : 256 ^ (k + 1) ≤ 256 ^ 8 := Nat.pow_le_pow_right (by decide) (by omega)
    rw [Nat.pow_succ] at this
    exact this
  have hbk : b * 256 ^ k ≤ 255 * 256 ^ k := Nat.mul_le_mul_right _ (by omega)
  rw [e2, BitVec.ofInt_natCast, BitVec.ofInt_natCast, BitVec.toNat_or, BitVec.toNat_ofNat, BitVec.toNat_ofNat, Nat.mod_eq_of_lt (by omega), Nat.mod_eq_of_lt (by omega)]
  have e3 : 256 ^ k = 2 ^ (8 * k) := by rw [show (256 : Nat) = 2 ^ 8 from rfl, ← Nat.pow_mul]
  rw [e3] at hX ⊢
  rw [Nat.or_comm, Nat.mul_comm b, ← Nat.two_pow_add_eq_or_of_lt hX, Nat.add_comm]
theorem or_i64 (X b k : Nat) (hX : X < 256 ^ k) (hb : b < 256) (hk : k < 8) :
    bits .or .i64 (wrap64 (X : Int)) (wrap64 (wrap64 (b : Int) * 2 ^ (8 * k))) = wrap64 ((X + b * 256 ^ k : Nat) : Int) := by
  have w1 : wrap64 (b : Int) = (b : Int) := IntWalk.wrap64_in _ ⟨by omega, by omega⟩
  rw [w1]
  show IntKind.i64.wrap ((BitVec.ofInt 64 (wrap64 (X : Int)) ||| BitVec.ofInt 64 (wrap64 ((b : Int) * 2 ^ (8 * k)))).toNat : Int) = _
  have a1 : BitVec.ofInt 64 (wrap64 (X : Int)) = BitVec.ofInt 64 (X : Int) := by rw [← w64]; exact ofInt_wrap .i64 _
  have a2 : BitVec.ofInt 64 (wrap64 ((b : Int) * 2 ^ (8 * k))) = BitVec.ofInt 64 ((b : Int) * 2 ^ (8 * k)) := by rw [← w64]; exact ofInt_wrap .i64 _
  rw [a1, a2, or_nat X b k hX hb hk, w64]
theorem wrap64_0 : wrap64 0 = 0 := IntWalk.wrap64_in 0 (by omega)
theorem or_u64 (X b k : Nat) (hX : X < 256 ^ k) (hb : b < 256) (hk : k < 8) :
    bits .or .u64 (X : Int) (IntKind.u64.wrap (IntKind.u64.wrap (b : Int) * 2 ^ (8 * k))) = ((X + b * 256 ^ k : Nat) : Int) := by
  have w1 : IntKind.u64.wrap (b : Int) = (b : Int) := by rw [IntKind.wrap_u64]; omega
  rw [w1]
  show IntKind.u64.wrap ((BitVec.ofInt 64 (X : Int) ||| BitVec.ofInt 64 (IntKind.u64.wrap ((b : Int) * 2 ^ (8 * k)))).toNat : Int) = _
  have a2 : BitVec.ofInt 64 (IntKind.u64.wrap ((b : Int) * 2 ^ (8 * k))) = BitVec.ofInt 64 ((b : Int) * 2 ^ (8 * k)) := ofInt_wrap .u64 _
  rw [a2]
  have hlt := (BitVec.ofInt 64 (X : Int) ||| BitVec.ofInt 64 ((b : Int) * 2 ^ (8 * k))).isLt
  rw [or_nat X b k hX hb hk] at hlt ⊢
  rw [IntKind.wrap_u64]
  omega
theorem u64_in (x : Nat) (h : x < 18446744073709551616) : IntKind.u64.wrap (x : Int) = (x : Int) := by rw [IntKind.wrap_u64]; omega
/-- what Get answers, for every text and all numbers -/
def getR (s : ByteArray) (a z : Int) : Int × Int :=
  if (z < 1 ∨ 8 < z) ∨ a < 0 then (0, 1) else if (s.size : Int) < a + z then (0, 5) else (wrap64 (leNum s a.toNat z.toNat), 0)
/-- what Put answers -/
def putR (s : ByteArray) (n z : Int) : ByteArray := if z < 1 ∨ 8 < z then s else s ++ leS n z.toNat
/-- a text of one byte, at any world -/
theorem conv_at (W : World) (A : Nat) (y : Int) (y0 : 0 ≤ y) (y1 : y ≤ 255) (h : W.cell? ⟨A, 0, none⟩ = some (.int .u8 y)) : Sem.run Try.prog (convert 22 9 (.slice (some ⟨A, 0, none⟩) 1 1)) W = .ok (.string ⟨#[UInt8.ofNat y.toNat]⟩) W := by
  refine run_convert_bytes_back (P := Try.prog) W 22 9 5 ⟨A, 0, none⟩ 1 [UInt8.ofNat y.toNat] Try.underlying22 Try.underlying5 Try.underlying9 (fun j hj => ?_)
  have : j = 0 := by simpa using hj
  subst this
  show W.cell? ⟨A, 0, none⟩ = _
  rw [h]
  show some (Value.int .u8 y) = some (Value.int .u8 (((UInt8.ofNat y.toNat).toNat : Nat) : Int))
  rw [UInt8.toNat_ofNat', show ((y.toNat % 2 ^ 8 : Nat) : Int) = y from by omega]
theorem xor_in (a b : Int) : 0 ≤ bits .xor .u8 a b ∧ bits .xor .u8 a b ≤ 255 := by
  show 0 ≤ IntKind.u8.wrap ((BitVec.ofInt 8 a ^^^ BitVec.ofInt 8 b).toNat : Int) ∧ IntKind.u8.wrap ((BitVec.ofInt 8 a ^^^ BitVec.ofInt 8 b).toNat : Int) ≤ 255
  rw [IntKind.wrap_u8']
  omega
theorem conv_ex (w : World) (a b : Int) : ∃ (y : Int) (u : UInt8), bits .xor .u8 a b = y ∧ Sem.run Try.prog (convert 22 9 (.slice (some ⟨w.heap.size, 0, none⟩) 1 1)) (w.alloc (.cells #[.int .u8 y] 5)) = .ok (.string ⟨#[u]⟩) (w.alloc (.cells #[.int .u8 y] 5)) :=
  ⟨_, _, rfl, conv_at _ _ _ (xor_in a b).1 (xor_in a b).2 (by rw [World.cell?_alloc_new]; rfl)⟩
theorem size_one (b : UInt8) : (⟨#[b]⟩ : ByteArray).size = 1 := rfl
theorem byte_of_wf {n : Int} (h : (Lit.int .u8 n).wf = true) : ∃ b : UInt8, n = (b.toNat : Int) := by
  have := bounds_u8 h
  refine ⟨UInt8.ofNat n.toNat, ?_⟩
  rw [UInt8.toNat_ofNat']
  omega

theorem leNum_of (s : ByteArray) (a : Nat) (n : Int) (k : Nat) (h : ∀ i, i < k → s.data.toList.getD (a + i) 0 = leB n i) : (leNum s a k : Int) = n % 2 ^ (8 * k) := by
  induction k with
  | zero => simp [leNum, Int.emod_one]
  | succ k ih =>
    have ih' := ih (fun i hi => h i (by omega))
    rw [leNum, h k (by omega)]
    have hb := leB_toNat n k
    have e1 : (2 : Int) ^ (8 * (k + 1)) = 2 ^ (8 * k) * 256 := by rw [show 8 * (k + 1) = 8 * k + 8 from by omega, Int.pow_add]; rfl
    have e2 : ((256 ^ k : Nat) : Int) = 2 ^ (8 * k) := by rw [show (256 : Nat) = 2 ^ 8 from rfl, ← Nat.pow_mul]; simp
    have hp : (0 : Int) < 2 ^ (8 * k) := Int.pow_pos (by decide)
    rw [Int.natCast_add, Int.natCast_mul, e2, ih', hb, e1]
    generalize (2 : Int) ^ (8 * k) = q at *
    have c0 := Int.emod_add_mul_ediv n q
    have c1 := Int.emod_add_mul_ediv (n / q) 256
    have b0 := Int.emod_nonneg n (show q ≠ 0 by omega)
    have b1 := Int.emod_lt_of_pos n hp
    have b2 := Int.emod_nonneg (n / q) (show (256 : Int) ≠ 0 by decide)
    have b3 := Int.emod_lt_of_pos (n / q) (show (0 : Int) < 256 by decide)
    have hn : n = (n % q + q * (n / q % 256)) + q * 256 * (n / q / 256) := by
      rw [Int.mul_assoc, Int.add_assoc, ← Int.mul_add, c1, c0]
    have hr0 : 0 ≤ n % q + q * (n / q % 256) := Int.add_nonneg b0 (Int.mul_nonneg (by omega) b2)
    have hr1 : n % q + q * (n / q % 256) < q * 256 := by
      have : q * (n / q % 256) ≤ q * 255 := Int.mul_le_mul_of_nonneg_left (by omega) (by omega)
      omega
    conv => rhs; rw [hn]
    rw [Int.add_mul_emod_self_left, Int.emod_eq_of_lt hr0 hr1, Int.mul_comm]

theorem leNum_congr (s t : ByteArray) (a : Nat) (k : Nat) (h : ∀ i, i < k → s.data.toList.getD (a + i) 0 = t.data.toList.getD (a + i) 0) : leNum s a k = leNum t a k := by
  induction k with
  | zero => rfl
  | succ k ih => rw [leNum, leNum, ih (fun i hi => h i (by omega)), h k (by omega)]
theorem leNum_inj (s t : ByteArray) (a : Nat) (k : Nat) (h : leNum s a k = leNum t a k) : ∀ i, i < k → s.data.toList.getD (a + i) 0 = t.data.toList.getD (a + i) 0 := by
  induction k with
  | zero => intro i hi; omega
  | succ k ih =>
    rw [leNum, leNum] at h
    have h1 := leNum_lt s a k
    have h2 := leNum_lt t a k
    have hp : 0 < 256 ^ k := Nat.pow_pos (by decide)
    have e1 := congrArg (fun x => x / 256 ^ k) h
    have e2 := congrArg (fun x => x % 256 ^ k) h
    simp only [Nat.add_mul_div_right _ _ hp, Nat.div_eq_of_lt h1, Nat.div_eq_of_lt h2, Nat.zero_add] at e1
    simp only [Nat.add_mul_mod_self_right, Nat.mod_eq_of_lt h1, Nat.mod_eq_of_lt h2] at e2
    intro i hi
    by_cases hk : i = k
    · subst hk; exact UInt8.toNat_inj.1 e1
    · exact ih e2 i (by omega)
theorem size_list (s : ByteArray) : s.data.toList.length = s.size := by simp
theorem extract_list (s : ByteArray) (a b : Nat) : (s.extract a b).data.toList = (s.data.toList.take b).drop a := by
  rw [ByteArray.data_extract, Array.toList_extract, List.extract_eq_take_drop, List.take_drop]
  by_cases h : a ≤ b
  · rw [Nat.add_sub_cancel' h]
  · rw [show a + (b - a) = a from by omega]
    have h1 : (List.take a s.data.toList).drop a = [] := List.drop_eq_nil_of_le (by simp; omega)
    have h2 : (List.take b s.data.toList).drop a = [] := List.drop_eq_nil_of_le (by simp; omega)
    rw [h1, h2]
theorem leL_get (n : Int) (k i : Nat) (h : i < k) : (leL n k).getD i 0 = leB n i := by
  rw [List.getD_eq_getElem?_getD, List.getElem?_eq_getElem (by rw [leL_length]; exact h), Option.getD_some, leL_getD n k i h]
theorem getD_left (a b : List UInt8) (i : Nat) (h : i < a.length) : (a ++ b).getD i 0 = a.getD i 0 := by
  rw [List.getD_eq_getElem?_getD, List.getElem?_append_left h, ← List.getD_eq_getElem?_getD]
theorem getD_right (a b : List UInt8) (i : Nat) : (a ++ b).getD (a.length + i) 0 = b.getD i 0 := by
  rw [List.getD_eq_getElem?_getD, List.getElem?_append_right (by omega), Nat.add_sub_cancel_left, ← List.getD_eq_getElem?_getD]

/-- a slice of integers that came in: nil, or a row of cells with the numbers zs -/
def IsRow (k : IntKind) (w : World) (a : Option Addr) (len cap : Nat) (zs : List Int) : Prop :=
  (a = none ∧ len = 0 ∧ cap = 0 ∧ zs = []) ∨
  ∃ x, a = some x ∧ len ≤ cap ∧ cap ≤ maxLen ∧ zs.length = cap ∧ (∀ i, i < zs.length → w.cell? (x.add i) = some (.int k (zs.getD i 0))) ∧ ∀ n ∈ zs, (Lit.int k n).wf = true
end Go.Proofs.Ytlmbnofkmmehoaa
/- the choices of the drawing package: New and Spoilt -/
namespace Go.Proofs.Ytlmbnofkmmehoaa
open Go.RowKit
set_option maxRecDepth 20000
/-- the codes of a slice that came in, at a block behind it -/
theorem codes_of_row {w : World} {a : Option Addr} {len cap : Nat} {zs : List Int} (h : IsRow .u8 w a len cap zs) (l c : Nat) (hl : l ≤ len) (hl2 : l ≤ 4611686018427387904) :
    CodesOk (w.alloc (.cells #[.slice a l c, .int .i64 0] 60)) w.heap.size := by
  refine ⟨a, l, c, 0, by simp, by rw [World.cell?_alloc_new]; rfl, by rw [World.cell?_alloc_new]; rfl, by rw [World.frozen?_alloc_new], by omega, by omega, hl2, fun h0 => ?_⟩
  rcases h with ⟨_, h, _, _⟩ | ⟨x, rfl, hlc, _, hz, hcell, hwf⟩
  · omega
  · obtain ⟨b, off, spot⟩ := x
    have hc := hcell 0 (by omega)
    have hspot : spot = none := by simpa [Addr.add] using World.cell?_spot hc
    subst hspot
    have hb0 : w.cell? ⟨b, off, none⟩ = some (.int .u8 (zs.getD 0 0)) := by simpa [Addr.add] using hc
    have hb : b < w.heap.size := World.block_lt_of_cell? w _ hb0
    refine ⟨b, off, rfl, hb, fun j hj => ⟨zs.getD j 0, ?_, ?_⟩⟩
    · have e : (⟨b, off, none⟩ : Addr).add j = ⟨b, off + j, none⟩ := by
        simp only [Addr.add]; split
        · next h => rw [h]; rfl
        · rfl
      have := hcell j (by omega)
      rw [e] at this
      rw [World.cell?_alloc_lt _ _ _ hb]
      exact this
    · have hm : zs.getD j 0 ∈ zs := by
        rw [List.getD_eq_getElem?_getD, List.getElem?_eq_getElem (by omega), Option.getD_some]; exact List.getElem_mem _
      obtain ⟨u, hu⟩ := byte_of_wf (hwf _ hm)
      have := u.toNat_lt
      rw [hu]
      omega
set_option maxHeartbeats 400000 in
theorem new_any (a : Option Addr) (len cap : Nat) (zs : List Int) (w : World) (h : IsRow .u8 w a len cap zs) :
    Calls Try.prog 11 #[.slice a len cap, .int .i64 60] w fun e w' => e = .returned (.pointer (some ⟨w.heap.size, 0, none⟩)) ∧ Below w.heap.size w w' ∧ CodesOk w' w.heap.size := by
  by_cases hl : 60 < len
  · have HK := Lib.hid (codes_of_row h 60 cap (by omega) (by omega))
    rcases h with ⟨_, h, _, _⟩ | ⟨x, rfl, hlc, hcm, hz, _, _⟩
    · omega
    · have hcap : (60 : Int) ≤ (cap : Int) := by omega
      clear hz
      go_enter Try.func11, Try.ntmps11
      go_wp2
      go_ret
      exact ⟨rfl, (Below.refl _ _).alloc (Nat.le_refl _) _, HK.out⟩
  · have HK := Lib.hid (codes_of_row h len cap (Nat.le_refl _) (by omega))
    clear h
    go_enter Try.func11, Try.ntmps11
    go_wp2
    go_ret
    exact ⟨rfl, (Below.refl _ _).alloc (Nat.le_refl _) _, HK.out⟩
end Go.Proofs.Ytlmbnofkmmehoaa
/- small things about memory that all texts use -/
namespace Go.Proofs.Ytlmbnofkmmehoaa
open Go.RowKit
set_option maxRecDepth 20000

theorem all_false {α : Type} {l : List α} {f : α → Bool} {c : α} (h : c ∈ l) (hf : f c = false) : l.all f = false := by
  rw [List.all_eq_false]; exact ⟨c, h, by rw [hf]; decide⟩
theorem ret_bool {a b : Bool} (h : a = b) : Ending.returned (.bool a) = .returned (.bool b) := by rw [h]
theorem heap_alloc_last (w : World) (o : Obj) : (w.alloc o).heap[w.heap.size]? = some o := by
  show (w.heap.push o)[w.heap.size]? = some o
  simp
theorem Besides.then_below {C : Nat} {a w w' : World} (h : Besides C a w) (hb : Below a.heap.size w w') : Besides C a w' :=
  ⟨hb.os.trans h.os, hb.tape.trans h.tape, hb.output.trans h.output, Nat.le_trans h.size hb.size, fun k hk hC => (hb.block k hk).trans (h.block k hk hC), fun hC => (World.cell?_of_block (a := ⟨C, 0, none⟩) (hb.block C hC)).trans (h.head hC)⟩
theorem Besides.setOwn {C B : Nat} {a w : World} (h : Besides C a w) (hB : a.heap.size ≤ B) (j : Nat) (u : Value) : Besides C a (w.setCell ⟨B, j, none⟩ u) :=
  h.then_below ((Below.refl _ _).setCell (p := ⟨B, j, none⟩) hB u)
theorem CodesOk.setOwn {C B : Nat} {w : World} (h : CodesOk w C) (hB : C < B) (j : Nat) (u : Value) : CodesOk (w.setCell ⟨B, j, none⟩ u) C :=
  h.below ((Below.refl B w).setCell (p := ⟨B, j, none⟩) (Nat.le_refl _) u) hB
theorem info_byte : (Try.prog.info? 5).map (fun i => (i.zero, i.size, i.bytes)) = some (some (.int .u8 0), 1, 1) := by kernel_rfl
theorem info_of {t : TypeId} {z : Value} {s b : Nat} (h : (Try.prog.info? t).map (fun i => (i.zero, i.size, i.bytes)) = some (some z, s, b)) : ∃ i, Try.prog.info? t = some i ∧ i.zero = some z ∧ i.size = s ∧ i.bytes = b := by
  cases e : Try.prog.info? t with
  | none => rw [e] at h; cases h
  | some i =>
    rw [e] at h
    simp only [Option.map_some, Option.some.injEq, Prod.mk.injEq] at h
    exact ⟨i, rfl, h.1, h.2.1, h.2.2⟩
theorem info_byte' : ∃ i, Try.prog.info? 5 = some i ∧ i.zero = some (.int .u8 0) ∧ i.size = 1 ∧ i.bytes = 1 := info_of info_byte
end Go.Proofs.Ytlmbnofkmmehoaa
/- what all laws begin with: the choices -/
namespace Go.Proofs.Ytlmbnofkmmehoaa
open Go.RowKit
set_option maxRecDepth 20000

/-- the codes' own slice -/
def CodesRow (W : World) (B : Nat) (a : Option Addr) (len : Nat) : Prop := ∃ l c, W.cell? ⟨B, 0, none⟩ = some (.slice a l c) ∧ (0 < l → 0 < len)
set_option maxHeartbeats 400000 in
theorem new_at (m : Nat) (hm : m ≤ 1000) (a : Option Addr) (len cap : Nat) (zs : List Int) (w : World) (h : IsRow .u8 w a len cap zs) :
    Calls Try.prog 11 #[.slice a len cap, .int .i64 m] w fun e w' => e = .returned (.pointer (some ⟨w.heap.size, 0, none⟩)) ∧ Below w.heap.size w w' ∧ CodesOk w' w.heap.size ∧ CodesRow w' w.heap.size a len := by
  by_cases hl : m < len
  · have HK := Lib.hid (codes_of_row h m cap (by omega) (by omega))
    rcases h with ⟨_, h, _, _⟩ | ⟨x, rfl, hlc, hcm, hz, _, _⟩
    · omega
    · have hcap : (m : Int) ≤ (cap : Int) := by omega
      have hi : (m : Int) < (len : Int) := by omega
      have hm0 : (0 : Int) ≤ (m : Int) := by omega
      have HL : Hid (m < len) := hl
      clear hz
      go_enter Try.func11, Try.ntmps11
      go_wp2
      go_ret
      exact ⟨rfl, (Below.refl _ _).alloc (Nat.le_refl _) _, HK.out, ⟨_, _, by rw [World.cell?_alloc_new]; rfl, fun _ => by have := HL.out; omega⟩⟩
  · have hle : len ≤ 4611686018427387904 := by omega
    have HK := Lib.hid (codes_of_row h len cap (Nat.le_refl _) hle)
    have hi : ¬ ((m : Int) < (len : Int)) := by omega
    clear h
    go_enter Try.func11, Try.ntmps11
    go_wp2
    go_ret
    refine ⟨rfl, (Below.refl _ _).alloc (Nat.le_refl _) _, HK.out, ⟨len, cap, ?_, fun h0 => h0⟩⟩
    rw [World.cell?_alloc_new]
    rfl
theorem new_to (m : Nat) (hm : m ≤ 1000) (a : Option Addr) (len cap : Nat) (zs : List Int) (w : World) (h : IsRow .u8 w a len cap zs) :
    Calls Try.prog 11 #[.slice a len cap, .int .i64 m] w fun e w' => e = .returned (.pointer (some ⟨w.heap.size, 0, none⟩)) ∧ Below w.heap.size w w' ∧ CodesOk w' w.heap.size :=
  (new_at m hm a len cap zs w h).mono fun _ _ h => ⟨h.1, h.2.1, h.2.2.1⟩
theorem row_below {w w1 : World} {x : Option Addr} {len cap : Nat} {zs : List Int} (hr : IsRow .u8 w x len cap zs) (hb : Below w.heap.size w w1) : IsRow .u8 w1 x len cap zs := by
  rcases hr with h | ⟨b, hb1, hb2, hb3, hb4, hb5, hb6⟩
  · exact .inl h
  · refine .inr ⟨b, hb1, hb2, hb3, hb4, fun j hj => ?_, hb6⟩
    have hc := hb5 j hj
    rw [hb.cell (World.block_lt_of_cell? w _ hc)]
    exact hc
end Go.Proofs.Ytlmbnofkmmehoaa
/- objects in memory, and what a walk keeps of them -/
namespace Go.Proofs.Ytlmbnofkmmehoaa
open Go.RowKit
set_option maxRecDepth 20000

/-- an object: a block of cells -/
structure Ob where
  b : Nat
  t : TypeId
  cs : List Value
def Ob.In (o : Ob) (W : World) : Prop := W.heap[o.b]? = some (.cells o.cs.toArray o.t (0, 0))
theorem Ob.In.lt {o : Ob} {W : World} (h : o.In W) : o.b < W.heap.size := (Array.getElem?_eq_some_iff.1 h).1
theorem Ob.In.below {o : Ob} {W W' : World} {B : Nat} (h : o.In W) (hb : Below B W W') (hB : o.b < B) : o.In W' := (hb.block _ hB).trans h
theorem Ob.In.calls {o : Ob} {W W' : World} (h : o.In W) (hb : Below W.heap.size W W') : o.In W' := h.below hb h.lt
theorem Ob.In.besides {o : Ob} {W W' : World} {C : Nat} (h : o.In W) (hb : Besides C W W') (hC : o.b ≠ C) : o.In W' := (hb.block _ h.lt hC).trans h
theorem Ob.In.cell {o : Ob} {W : World} (h : o.In W) (k : Nat) : W.cell? ⟨o.b, k, none⟩ = o.cs[k]? := by
  rw [cell_of_row W o.b k _ _ _ h, List.getElem?_toArray]
theorem Ob.In.at {o : Ob} {W : World} (h : o.In W) (k : Nat) {v : Value} (hv : o.cs[k]? = some v) : W.cell? ⟨o.b, k, none⟩ = some v := (h.cell k).trans hv
theorem Ob.In.frozen {o : Ob} {W : World} (h : o.In W) (k : Nat) : W.frozen? ⟨o.b, k, none⟩ = false := frozen_of_row _ _ _ _ _ h
theorem Ob.In.range {o : Ob} {W : World} (h : o.In W) (k : Nat) (vs : List Value) (hv : ∀ j v, vs[j]? = some v → o.cs[k + j]? = some v) : W.rangeAt o.b k vs := fun j v e => by
  rw [h.cell, hv j v e]
theorem Ob.In.whole {o : Ob} {W : World} (h : o.In W) : W.rangeAt o.b 0 o.cs := h.range 0 _ (fun j v e => by rw [Nat.zero_add]; exact e)
theorem Ob.In.there {o : Ob} {W : World} (h : o.In W) (k n : Nat) (hn : k + n ≤ o.cs.length) : W.there o.b k n := fun j hj => by
  rw [h.cell, h.frozen, List.getElem?_eq_getElem (by omega)]
  exact ⟨rfl, rfl⟩
theorem Ob.In.set {o : Ob} {W : World} (h : o.In W) (k : Nat) (v : Value) : Ob.In ⟨o.b, o.t, o.cs.set k v⟩ (W.setCell ⟨o.b, k, none⟩ v) := by
  have := heap_setCell_same W o.b k _ _ v h
  rw [List.setIfInBounds_toArray] at this
  exact this
theorem Ob.In.other {o : Ob} {W : World} (h : o.In W) (b k : Nat) (v : Value) (hb : o.b ≠ b) : o.In (W.setCell ⟨b, k, none⟩ v) := (Below.heap_setCell _ _ _ _ hb).trans h
theorem Ob.In.drew {o : Ob} {W : World} (h : o.In W) : o.In W.drew := h

/-- what was there is as it was, and these objects lie in new memory -/
structure Fr (w : World) (L : List Ob) (W : World) : Prop where
  old : Below w.heap.size w W
  obs : ∀ o ∈ L, o.In W
  new : ∀ o ∈ L, w.heap.size ≤ o.b
  nd : L.Pairwise fun o o' => o.b ≠ o'.b
theorem Fr.start (w : World) : Fr w [] w := ⟨Below.refl _ _, by simp, by simp, .nil⟩
theorem Fr.at {w W : World} {L : List Ob} (h : Fr w L W) (i : Nat) {o : Ob} (e : L[i]? = some o) : o.In W := h.obs _ (List.mem_of_getElem? e)
theorem Fr.get {w W : World} {L : List Ob} (h : Fr w L W) (i : Nat) {b : Nat} {t : TypeId} {cs : List Value} (e : L[i]? = some ⟨b, t, cs⟩) : W.heap[b]? = some (.cells cs.toArray t (0, 0)) := h.at i e
theorem Fr.drew {w W : World} {L : List Ob} (h : Fr w L W) : Fr w L W.drew := ⟨h.old.drew, h.obs, h.new, h.nd⟩
theorem Fr.drewN {w W : World} {L : List Ob} (h : Fr w L W) (q : Nat) : Fr w L (W.drewN q) := ⟨⟨h.old.os, h.old.tape, h.old.output, h.old.size, h.old.block⟩, h.obs, h.new, h.nd⟩
theorem Fr.calls {w W W' : World} {L : List Ob} (h : Fr w L W) (hb : Below W.heap.size W W') : Fr w L W' :=
  ⟨h.old.trans (hb.mono h.old.size), fun o ho => (h.obs o ho).calls hb, h.new, h.nd⟩
theorem Fr.besides {w W W' : World} {L : List Ob} {C : Nat} (h : Fr w L W) (hb : Besides C W W') (hw : w.heap.size ≤ C) (hC : ∀ o ∈ L, o.b ≠ C) : Fr w L W' :=
  ⟨h.old.trans (hb.below hw h.old.size), fun o ho => (h.obs o ho).besides hb (hC o ho), h.new, h.nd⟩
theorem Fr.put {w W : World} {L : List Ob} (h : Fr w L W) (t : TypeId) (cs : List Value) : Fr w (L ++ [⟨W.heap.size, t, cs⟩]) (W.alloc (.cells cs.toArray t)) := by
  refine ⟨h.old.trans (((Below.refl _ _).alloc (Nat.le_refl _) _).mono h.old.size), fun o ho => ?_, fun o ho => ?_, ?_⟩
  · rcases List.mem_append.1 ho with ho | ho
    · exact (h.obs o ho).calls ((Below.refl _ _).alloc (Nat.le_refl _) _)
    · obtain rfl := List.mem_singleton.1 ho
      exact heap_alloc_last W _
  · rcases List.mem_append.1 ho with ho | ho
    · exact h.new o ho
    · obtain rfl := List.mem_singleton.1 ho
      exact h.old.size
  · rw [List.pairwise_append]
    refine ⟨h.nd, List.pairwise_singleton _ _, fun a ha b hb => ?_⟩
    obtain rfl := List.mem_singleton.1 hb
    have := (h.obs a ha).lt
    show a.b ≠ W.heap.size
    omega
theorem pair_ne {L : List Ob} (hn : L.Pairwise fun o o' => o.b ≠ o'.b) : ∀ (i j : Nat) (x y : Ob), L[i]? = some x → L[j]? = some y → i ≠ j → x.b ≠ y.b := by
  induction L with
  | nil => intro i j x y hx; simp at hx
  | cons z l ih =>
    rw [List.pairwise_cons] at hn
    intro i j x y hx hy hij
    cases i with
    | zero =>
      cases j with
      | zero => exact absurd rfl hij
      | succ j =>
        obtain rfl : z = x := by simpa using hx
        exact hn.1 y (List.mem_of_getElem? (by simpa using hy))
    | succ i =>
      cases j with
      | zero =>
        obtain rfl : z = y := by simpa using hy
        exact fun e => hn.1 x (List.mem_of_getElem? (by simpa using hx)) e.symm
      | succ j => exact ih hn.2 i j x y (by simpa using hx) (by simpa using hy) (by omega)
theorem Fr.ne {w W : World} {L : List Ob} (h : Fr w L W) (i j : Nat) {b c : Nat} {t u : TypeId} {x y : List Value} (ei : L[i]? = some ⟨b, t, x⟩) (ej : L[j]? = some ⟨c, u, y⟩) (hij : i ≠ j) : b ≠ c := pair_ne h.nd i j _ _ ei ej hij
theorem pair_set {L : List Ob} {i : Nat} {o : Ob} (hn : L.Pairwise fun o o' => o.b ≠ o'.b) (e : L[i]? = some o) (o' : Ob) (hb : o'.b = o.b) : (L.set i o').Pairwise fun o o' => o.b ≠ o'.b := by
  induction L generalizing i with
  | nil => simp at e
  | cons x l ih =>
    rw [List.pairwise_cons] at hn
    cases i with
    | zero =>
      obtain rfl : x = o := by simpa using e
      rw [List.set_cons_zero, List.pairwise_cons]
      exact ⟨fun y hy => by rw [hb]; exact hn.1 y hy, hn.2⟩
    | succ i =>
      have e' : l[i]? = some o := by simpa using e
      rw [List.set_cons_succ, List.pairwise_cons]
      refine ⟨fun y hy => ?_, ih hn.2 e'⟩
      rcases List.mem_or_eq_of_mem_set hy with hy | rfl
      · exact hn.1 y hy
      · rw [hb]; exact hn.1 o (List.mem_of_getElem? e')
theorem other_of {L : List Ob} {i : Nat} {o x : Ob} (hn : L.Pairwise fun o o' => o.b ≠ o'.b) (e : L[i]? = some o) (o' : Ob) (hx : x ∈ L.set i o') : x = o' ∨ (x ∈ L ∧ x.b ≠ o.b) := by
  induction L generalizing i with
  | nil => simp at e
  | cons y l ih =>
    rw [List.pairwise_cons] at hn
    cases i with
    | zero =>
      obtain rfl : y = o := by simpa using e
      rw [List.set_cons_zero] at hx
      rcases List.mem_cons.1 hx with rfl | hx
      · exact .inl rfl
      · exact .inr ⟨List.mem_cons_of_mem _ hx, fun e => hn.1 x hx e.symm⟩
    | succ i =>
      have e' : l[i]? = some o := by simpa using e
      rw [List.set_cons_succ] at hx
      rcases List.mem_cons.1 hx with rfl | hx
      · exact .inr ⟨List.mem_cons_self .., hn.1 o (List.mem_of_getElem? e')⟩
      · rcases ih hn.2 e' hx with h | h
        · exact .inl h
        · exact .inr ⟨List.mem_cons_of_mem _ h.1, h.2⟩
/-- an object turned, the others as they were -/
theorem Fr.turn {w W W' : World} {L : List Ob} (h : Fr w L W) (i : Nat) {o : Ob} (e : L[i]? = some o) (cs : List Value) (hn : Ob.In ⟨o.b, o.t, cs⟩ W') (ho : ∀ k, k ≠ o.b → W'.heap[k]? = W.heap[k]?) (hos : W'.os = W.os) (ht : W'.tape = W.tape) (hout : W'.output = W.output) (hs : W.heap.size ≤ W'.heap.size) :
    Fr w (L.set i ⟨o.b, o.t, cs⟩) W' := by
  have hm := List.mem_of_getElem? e
  refine ⟨⟨hos.trans h.old.os, ht.trans h.old.tape, hout.trans h.old.output, Nat.le_trans h.old.size hs, fun k hk => (ho k (by have := h.new o hm; omega)).trans (h.old.block k hk)⟩, fun x hx => ?_, fun x hx => ?_, pair_set h.nd e _ rfl⟩
  · rcases other_of h.nd e _ hx with rfl | ⟨hx, hb⟩
    · exact hn
    · exact (ho x.b hb).trans (h.obs x hx)
  · rcases other_of h.nd e _ hx with rfl | ⟨hx, hb⟩
    · exact h.new o hm
    · exact h.new x hx
theorem Fr.set {w W : World} {L : List Ob} (h : Fr w L W) (i : Nat) {o : Ob} (e : L[i]? = some o) (k : Nat) (v : Value) : Fr w (L.set i ⟨o.b, o.t, o.cs.set k v⟩) (W.setCell ⟨o.b, k, none⟩ v) :=
  h.turn i e _ ((h.at i e).set k v) (fun j hj => Below.heap_setCell _ _ _ _ hj) rfl rfl rfl (by simp [World.setCell])
theorem Fr.row {w W : World} {L : List Ob} (h : Fr w L W) (i : Nat) {o : Ob} (e : L[i]? = some o) (cs : List Value) : Fr w (L.set i ⟨o.b, o.t, cs⟩) (W.setRow o.b cs.toArray) :=
  h.turn i e _ (setRow_heap _ _ _ _ _ _ (h.at i e)) (fun j hj => setRow_other _ _ _ _ hj) rfl rfl rfl (by simp [World.setRow])

/-- the same, and choices at block C -/
structure St (w : World) (C : Nat) (L : List Ob) (W : World) : Prop where
  fr : Fr w L W
  codes : CodesOk W C
  le : w.heap.size ≤ C
  ne : ∀ o ∈ L, o.b ≠ C
theorem St.old {w W : World} {C : Nat} {L : List Ob} (h : St w C L W) : Below w.heap.size w W := h.fr.old
theorem St.at {w W : World} {C : Nat} {L : List Ob} (h : St w C L W) (i : Nat) {o : Ob} (e : L[i]? = some o) : o.In W := h.fr.at i e
theorem St.get {w W : World} {C : Nat} {L : List Ob} (h : St w C L W) (i : Nat) {b : Nat} {t : TypeId} {cs : List Value} (e : L[i]? = some ⟨b, t, cs⟩) : W.heap[b]? = some (.cells cs.toArray t (0, 0)) := h.fr.at i e
theorem St.drew {w W : World} {C : Nat} {L : List Ob} (h : St w C L W) : St w C L W.drew := ⟨h.fr.drew, h.codes.drew, h.le, h.ne⟩
theorem St.drewN {w W : World} {C : Nat} {L : List Ob} (h : St w C L W) (q : Nat) : St w C L (W.drewN q) := ⟨h.fr.drewN q, h.codes.drewN q, h.le, h.ne⟩
theorem St.calls {w W W' : World} {C : Nat} {L : List Ob} (h : St w C L W) (hb : Below W.heap.size W W') : St w C L W' := ⟨h.fr.calls hb, h.codes.below hb h.codes.lt, h.le, h.ne⟩
theorem St.draws {w W W' : World} {C : Nat} {L : List Ob} (h : St w C L W) (hb : Besides C W W') (hc : CodesOk W' C) : St w C L W' := ⟨h.fr.besides hb h.le h.ne, hc, h.le, h.ne⟩
theorem St.put {w W : World} {C : Nat} {L : List Ob} (h : St w C L W) (t : TypeId) (cs : List Value) : St w C (L ++ [⟨W.heap.size, t, cs⟩]) (W.alloc (.cells cs.toArray t)) :=
  ⟨h.fr.put t cs, h.codes.below ((Below.refl _ _).alloc (Nat.le_refl _) _) h.codes.lt, h.le, fun o ho => by
    rcases List.mem_append.1 ho with ho | ho
    · exact h.ne o ho
    · obtain rfl := List.mem_singleton.1 ho
      have := h.codes.lt
      show W.heap.size ≠ C
      omega⟩
theorem ne_set {L : List Ob} {i : Nat} {o o' : Ob} {C : Nat} (h : ∀ x ∈ L, x.b ≠ C) (e : L[i]? = some o) (hb : o'.b = o.b) : ∀ x ∈ L.set i o', x.b ≠ C := fun x hx => by
  rcases List.mem_or_eq_of_mem_set hx with hx | rfl
  · exact h x hx
  · rw [hb]; exact h o (List.mem_of_getElem? e)
theorem St.set {w W : World} {C : Nat} {L : List Ob} (h : St w C L W) (i : Nat) {o : Ob} (e : L[i]? = some o) (hC : C < o.b) (k : Nat) (v : Value) : St w C (L.set i ⟨o.b, o.t, o.cs.set k v⟩) (W.setCell ⟨o.b, k, none⟩ v) :=
  ⟨h.fr.set i e k v, CodesOk.setOwn h.codes hC k v, h.le, ne_set h.ne e rfl⟩
theorem St.row {w W : World} {C : Nat} {L : List Ob} (h : St w C L W) (i : Nat) {o : Ob} (e : L[i]? = some o) (hC : C < o.b) (cs : List Value) : St w C (L.set i ⟨o.b, o.t, cs⟩) (W.setRow o.b cs.toArray) :=
  ⟨h.fr.row i e cs, h.codes.below (below_setRow (Below.refl o.b W) (Nat.le_refl _) _) hC, h.le, ne_set h.ne e rfl⟩
/-- the choices begin: behind what was made before -/
theorem St.begin {w W W' : World} {L : List Ob} (h : Fr w L W) (hb : Below W.heap.size W W') (hc : CodesOk W' W.heap.size) : St w W.heap.size L W' :=
  ⟨h.calls hb, hc, h.old.size, fun o ho => by have := (h.obs o ho).lt; omega⟩

/-- within a function that is handed choices: all but those is as it was, and these objects are new -/
structure Dr (w : World) (C : Nat) (L : List Ob) (W : World) : Prop where
  bes : Besides C w W
  codes : CodesOk W C
  lt : C < w.heap.size
  obs : ∀ o ∈ L, o.In W
  new : ∀ o ∈ L, w.heap.size ≤ o.b
  nd : L.Pairwise fun o o' => o.b ≠ o'.b
theorem Dr.start {w : World} {C : Nat} (h : CodesOk w C) : Dr w C [] w := ⟨Besides.refl _ _, h, h.lt, by simp, by simp, .nil⟩
theorem Dr.get {w W : World} {C : Nat} {L : List Ob} (h : Dr w C L W) (i : Nat) {b : Nat} {t : TypeId} {cs : List Value} (e : L[i]? = some ⟨b, t, cs⟩) : W.heap[b]? = some (.cells cs.toArray t (0, 0)) := h.obs _ (List.mem_of_getElem? e)
theorem Dr.at {w W : World} {C : Nat} {L : List Ob} (h : Dr w C L W) (i : Nat) {o : Ob} (e : L[i]? = some o) : o.In W := h.obs _ (List.mem_of_getElem? e)
theorem Dr.draws {w W W' : World} {C : Nat} {L : List Ob} (h : Dr w C L W) (hb : Besides C W W') (hc : CodesOk W' C) : Dr w C L W' :=
  ⟨h.bes.trans hb, hc, h.lt, fun o ho => (h.obs o ho).besides hb (by have := h.new o ho; have := h.lt; omega), h.new, h.nd⟩
theorem Dr.put {w W : World} {C : Nat} {L : List Ob} (h : Dr w C L W) (t : TypeId) (cs : List Value) : Dr w C (L ++ [⟨W.heap.size, t, cs⟩]) (W.alloc (.cells cs.toArray t)) := by
  refine ⟨h.bes.alloc _, h.codes.below ((Below.refl _ _).alloc (Nat.le_refl _) _) h.codes.lt, h.lt, fun o ho => ?_, fun o ho => ?_, ?_⟩
  · rcases List.mem_append.1 ho with ho | ho
    · exact (h.obs o ho).calls ((Below.refl _ _).alloc (Nat.le_refl _) _)
    · obtain rfl := List.mem_singleton.1 ho
      exact heap_alloc_last W _
  · rcases List.mem_append.1 ho with ho | ho
    · exact h.new o ho
    · obtain rfl := List.mem_singleton.1 ho
      exact h.bes.size
  · rw [List.pairwise_append]
    refine ⟨h.nd, List.pairwise_singleton _ _, fun a ha b hb => ?_⟩
    obtain rfl := List.mem_singleton.1 hb
    have := (h.obs a ha).lt
    show a.b ≠ W.heap.size
    omega
theorem Dr.turn {w W W' : World} {C : Nat} {L : List Ob} (h : Dr w C L W) (i : Nat) {o : Ob} (e : L[i]? = some o) (cs : List Value) (hn : Ob.In ⟨o.b, o.t, cs⟩ W') (hb : Below o.b W W') (ho : ∀ k, k ≠ o.b → W'.heap[k]? = W.heap[k]?) : Dr w C (L.set i ⟨o.b, o.t, cs⟩) W' := by
  have hm := List.mem_of_getElem? e
  have hnw := h.new o hm
  have hlt := h.lt
  refine ⟨⟨hb.os.trans h.bes.os, hb.tape.trans h.bes.tape, hb.output.trans h.bes.output, Nat.le_trans h.bes.size hb.size, fun k hk hC => (ho k (by omega)).trans (h.bes.block k hk hC), fun hC => (World.cell?_of_block (a := ⟨C, 0, none⟩) (ho C (by omega))).trans (h.bes.head hC)⟩, h.codes.below hb (by omega), hlt, fun x hx => ?_, fun x hx => ?_, pair_set h.nd e _ rfl⟩
  · rcases other_of h.nd e _ hx with rfl | ⟨hx, hb⟩
    · exact hn
    · exact (ho x.b hb).trans (h.obs x hx)
  · rcases other_of h.nd e _ hx with rfl | ⟨hx, hb⟩
    · exact hnw
    · exact h.new x hx
theorem Dr.set {w W : World} {C : Nat} {L : List Ob} (h : Dr w C L W) (i : Nat) {o : Ob} (e : L[i]? = some o) (k : Nat) (v : Value) : Dr w C (L.set i ⟨o.b, o.t, o.cs.set k v⟩) (W.setCell ⟨o.b, k, none⟩ v) :=
  h.turn i e _ ((h.at i e).set k v) ((Below.refl _ _).setCell (p := ⟨o.b, k, none⟩) (Nat.le_refl _) v) (fun _ hj => Below.heap_setCell _ _ _ _ hj)
theorem Dr.row {w W : World} {C : Nat} {L : List Ob} (h : Dr w C L W) (i : Nat) {o : Ob} (e : L[i]? = some o) (cs : List Value) : Dr w C (L.set i ⟨o.b, o.t, cs⟩) (W.setRow o.b cs.toArray) :=
  h.turn i e _ (setRow_heap _ _ _ _ _ _ (h.at i e)) (below_setRow (Below.refl _ _) (Nat.le_refl _) _) (fun _ hj => setRow_other _ _ _ _ hj)

/-- the operations on whole objects, written out: where another one stands they fail at once -/
theorem wpList_store_ob (t : TypeId) (x : Operand) {y : Operand} {ops : Array Oper} {rest : List Oper} {a : Act} {w : World} {Q : Exit → Act → World → Prop} {ty : TypeId} {pos : String} {aft : Array Edge}
    (b : Nat) (cs zs : List Value) (t0 : TypeId) (hx : a.eval x = .pointer (some ⟨b, 0, none⟩)) (hy : a.eval y = .agg cs.toArray) (hg : w.heap[b]? = some (.cells zs.toArray t0 (0, 0)))
    (hi : (Try.prog.info? t).map (·.size) = some cs.length) (hl : zs.length = cs.length) (h1 : cs.toArray.all (·.oneCell') = true)
    (h : wpList Try.prog ops Q rest a (w.setRow b cs.toArray)) :
    wpList Try.prog ops Q ({ dst := none, op := .store t x y, type := ty, pos := pos, after := aft, guard := none } :: rest) a w :=
  wpList_store_row rfl t x y rfl b cs.toArray hx hy t0 zs.toArray hg (by rw [List.size_toArray]; exact hi) (by rw [List.size_toArray, List.size_toArray]; exact hl) h1 h
theorem wpList_load_ob (t : TypeId) (x : Operand) {ops : Array Oper} {rest : List Oper} {a : Act} {w : World} {Q : Exit → Act → World → Prop} {d : Option Tmp} {ty : TypeId} {pos : String} {aft : Array Edge}
    (b : Nat) (cs : List Value) (t0 : TypeId) {ds : TypeDesc} (hu : Try.prog.underlying t = some ds) (hx : a.eval x = .pointer (some ⟨b, 0, none⟩)) (hg : w.heap[b]? = some (.cells cs.toArray t0 (0, 0)))
    (hd : ds.isRow = true) (hi : (Try.prog.info? t).map (·.size) = some cs.length)
    (h : wpList Try.prog ops Q rest (a.put d (.agg cs.toArray)) w) :
    wpList Try.prog ops Q ({ dst := d, op := .load t x, type := ty, pos := pos, after := aft, guard := none } :: rest) a w :=
  wpList_load_row rfl t x rfl b hx t0 cs.toArray (0, 0) ds hg hu (by cases ds <;> simp_all) (by rw [List.size_toArray]; exact hi) h
theorem wpList_load_row_g {ops : Array Oper} {rest : List Oper} {o : Oper} {a : Act} {w : World} {Q : Exit → Act → World → Prop} (hw : Region.wanted o (yielded ops a.tmps) = true) (ty : TypeId) (x : Operand) (ho : o.op = .load ty x)
    (g : Nat) (hx : a.eval x = .pointer (some ⟨g, 0, none⟩)) (t : TypeId) (cs : Array Value) (fr : Nat × Nat) (d : TypeDesc) (hg : w.heap[g]? = some (.cells cs t fr))
    (hu : Try.prog.underlying ty = some d) (hd : d.isRow = true) (hi : (Try.prog.info? ty).map (·.size) = some cs.size)
    (h : wpList Try.prog ops Q rest (a.put o.dst (.agg cs)) w) : wpList Try.prog ops Q (o :: rest) a w :=
  wpList_step fun K hK => by
    rw [if_pos hw]
    exact wp_load_row ty x ho g hx t cs fr d hg hu (by cases d <;> simp_all) hi (hK _ _ h)
theorem wpList_load_ob_w (t : TypeId) (x : Operand) {ops : Array Oper} {rest : List Oper} {a : Act} {w : World} {Q : Exit → Act → World → Prop} {d : Option Tmp} {ty : TypeId} {pos : String} {aft : Array Edge} {gd : Nat × Bool}
    (b : Nat) (cs : List Value) (t0 : TypeId) {ds : TypeDesc} (hu : Try.prog.underlying t = some ds) (hw : Region.wanted { dst := d, op := .load t x, type := ty, pos := pos, after := aft, guard := some gd } (yielded ops a.tmps) = true) (hx : a.eval x = .pointer (some ⟨b, 0, none⟩)) (hg : w.heap[b]? = some (.cells cs.toArray t0 (0, 0)))
    (hd : ds.isRow = true) (hi : (Try.prog.info? t).map (·.size) = some cs.length)
    (h : wpList Try.prog ops Q rest (a.put d (.agg cs.toArray)) w) :
    wpList Try.prog ops Q ({ dst := d, op := .load t x, type := ty, pos := pos, after := aft, guard := some gd } :: rest) a w :=
  wpList_load_row_g hw t x rfl b hx t0 cs.toArray (0, 0) ds hg hu hd (by rw [List.size_toArray]; exact hi) h
theorem wpList_load_at (t : TypeId) (x : Operand) {ops : Array Oper} {rest : List Oper} {a : Act} {w : World} {Q : Exit → Act → World → Prop} {d : Option Tmp} {ty : TypeId} {pos : String} {aft : Array Edge}
    (b o : Nat) (cs : List Value) {ds : TypeDesc} (hu : Try.prog.underlying t = some ds) (hx : a.eval x = .pointer (some ⟨b, o, none⟩)) (hg : w.rangeAt b o cs)
    (hd : ds.isRow = true) (hi : (Try.prog.info? t).map (·.size) = some cs.length)
    (h : wpList Try.prog ops Q rest (a.put d (.agg cs.toArray)) w) :
    wpList Try.prog ops Q ({ dst := d, op := .load t x, type := ty, pos := pos, after := aft, guard := none } :: rest) a w :=
  wpList_load_mid rfl t x rfl b o hx cs ds hg hu hd hi h
/-- an object and a word, as the results -/
theorem results_ob_tmp {fn : Func} {p u : Tmp} {t : TypeId} (h : fn.results = #[.cell p t, .tmp u]) (tmps : Array Value) (w : World) (g : Nat) (cs : List Value) (t0 : TypeId) (ds : TypeDesc)
    (hp : tmps.getD p undef = .pointer (some ⟨g, 0, none⟩)) (hg : w.heap[g]? = some (.cells cs.toArray t0 (0, 0))) (hu : Try.prog.underlying t = some ds) (hd : ds.isRow = true) (hi : (Try.prog.info? t).map (·.size) = some cs.length) :
    (results fn tmps).run Try.prog w = .ok (.tuple #[.agg cs.toArray, tmps.getD u undef]) w := by
  rw [results_cell_tmp h, hp]
  simp [asAddr, run_loadVar_row w g t0 t cs.toArray (0, 0) ds hg hu (by cases ds <;> simp_all) (by rw [List.size_toArray]; exact hi), Result.andThen]
theorem results_ob {fn : Func} {p : Tmp} {t : TypeId} (h : fn.results = #[.cell p t]) (tmps : Array Value) (w : World) (g : Nat) (cs : List Value) (t0 : TypeId) (ds : TypeDesc)
    (hp : tmps.getD p undef = .pointer (some ⟨g, 0, none⟩)) (hg : w.heap[g]? = some (.cells cs.toArray t0 (0, 0))) (hu : Try.prog.underlying t = some ds) (hd : ds.isRow = true) (hi : (Try.prog.info? t).map (·.size) = some cs.length) :
    (results fn tmps).run Try.prog w = .ok (.agg cs.toArray) w :=
  results_cell_row h tmps w g t0 cs.toArray (0, 0) ds hp hg hu (by cases ds <;> simp_all) (by rw [List.size_toArray]; exact hi)
/-- an object is made -/
theorem wp_alloc_ob {o : Oper} {a : Act} {w : World} {K : Act → World → Prop} {Q : Exit → Act → World → Prop} (t : TypeId) (cs : List Value) (ho : o.op = .alloc t)
    (hr : ∀ W, Sem.run Try.prog (Instr.alloc t true (.tuple #[])) W = .ok (.pointer (some ⟨W.heap.size, 0, none⟩)) (W.alloc (.cells cs.toArray t)))
    (h : K (a.put o.dst (.pointer (some ⟨w.heap.size, 0, none⟩))) (w.alloc (.cells cs.toArray t))) : o.wp Try.prog a w K Q := by
  unfold Oper.wp execOp
  simp only [ho, Sem.run_bind, hr w, Result.andThen_ok, Sem.run_pure]
  exact h
theorem wpList_alloc_ob (t : TypeId) (cs : List Value) {ops : Array Oper} {rest : List Oper} {a : Act} {w : World} {Q : Exit → Act → World → Prop} {d : Option Tmp} {ty : TypeId} {pos : String} {aft : Array Edge}
    (hr : ∀ W, Sem.run Try.prog (Instr.alloc t true (.tuple #[])) W = .ok (.pointer (some ⟨W.heap.size, 0, none⟩)) (W.alloc (.cells cs.toArray t)))
    (h : wpList Try.prog ops Q rest (a.put d (.pointer (some ⟨w.heap.size, 0, none⟩))) (w.alloc (.cells cs.toArray t))) :
    wpList Try.prog ops Q ({ dst := d, op := .alloc t, type := ty, pos := pos, after := aft, guard := none } :: rest) a w :=
  wpList_plain rfl fun _ hK => by
    unfold Oper.wp execOp
    have := hr w
    simp only [Sem.run_bind, this, Result.andThen_ok, Sem.run_pure]
    exact hK _ _ h
theorem wp_store_ob {o : Oper} {a : Act} {w : World} {K : Act → World → Prop} {Q : Exit → Act → World → Prop} (t : TypeId) (x y : Operand) (b : Nat) (cs zs : List Value) (t0 : TypeId) (ho : o.op = .store t x y) (hd : o.dst = none) (hx : a.eval x = .pointer (some ⟨b, 0, none⟩)) (hy : a.eval y = .agg cs.toArray) (hg : w.heap[b]? = some (.cells zs.toArray t0 (0, 0)))
    (hi : (Try.prog.info? t).map (·.size) = some cs.length) (hl : zs.length = cs.length) (h1 : cs.toArray.all (·.oneCell') = true)
    (h : K a (w.setRow b cs.toArray)) : o.wp Try.prog a w K Q :=
  wp_store_row t x y ho b cs.toArray hx hy t0 zs.toArray hg (by rw [List.size_toArray]; exact hi) (by rw [List.size_toArray, List.size_toArray]; exact hl) h1 (by rw [hd]; exact h)
/-- these objects lie there -/
def Obs (L : List Ob) (W : World) : Prop := ∀ o ∈ L, o.In W
theorem Obs.whole {L : List Ob} {W : World} (h : Obs L W) (i : Nat) {b : Nat} {t : TypeId} {cs : List Value} (e : L[i]? = some ⟨b, t, cs⟩) : W.rangeAt b 0 cs := (h _ (List.mem_of_getElem? e)).whole
theorem Obs.get {L : List Ob} {W : World} (h : Obs L W) (i : Nat) {b : Nat} {t : TypeId} {cs : List Value} (e : L[i]? = some ⟨b, t, cs⟩) : W.heap[b]? = some (.cells cs.toArray t (0, 0)) := h _ (List.mem_of_getElem? e)
theorem Obs.at {L : List Ob} {W : World} (h : Obs L W) (i k : Nat) {b : Nat} {t : TypeId} {cs : List Value} {v : Value} (e : L[i]? = some ⟨b, t, cs⟩) (hv : cs[k]? = some v) : W.cell? ⟨b, k, none⟩ = some v := (h _ (List.mem_of_getElem? e)).at k hv
theorem Obs.init {L M : List Ob} {W : World} (h : Obs (L ++ M) W) : Obs L W := fun o ho => h o (List.mem_append_left _ ho)
theorem Fr.all {w W : World} {L : List Ob} (h : Fr w L W) : Obs L W := h.obs
theorem St.all {w W : World} {C : Nat} {L : List Ob} (h : St w C L W) : Obs L W := h.fr.obs
/-- a value is built -/
theorem wpList_build_v (t : TypeId) {ps : Array (Nat × Operand)} {ops : Array Oper} {rest : List Oper} {a : Act} {w : World} {Q : Exit → Act → World → Prop} {d : Option Tmp} {ty : TypeId} {pos : String} {aft : Array Edge}
    (v : Value) (hb : ∀ W, Sem.run Try.prog (Instr.build t (ps.map fun x => (x.1, a.eval x.2))) W = .ok v W)
    (h : wpList Try.prog ops Q rest (a.put d v) w) :
    wpList Try.prog ops Q ({ dst := d, op := .build t ps, type := ty, pos := pos, after := aft, guard := none } :: rest) a w :=
  wpList_plain rfl fun K hK => by
    unfold Oper.wp execOp
    have := hb w
    simp only [Sem.run_bind, this, Result.andThen_ok, Sem.run_pure]
    exact hK _ _ h
theorem wpList_load_at_w (t : TypeId) (x : Operand) {ops : Array Oper} {rest : List Oper} {a : Act} {w : World} {Q : Exit → Act → World → Prop} {d : Option Tmp} {ty : TypeId} {pos : String} {aft : Array Edge} {gd : Nat × Bool}
    (b o : Nat) (cs : List Value) {ds : TypeDesc} (hu : Try.prog.underlying t = some ds) (hw : Region.wanted { dst := d, op := .load t x, type := ty, pos := pos, after := aft, guard := some gd } (yielded ops a.tmps) = true) (hx : a.eval x = .pointer (some ⟨b, o, none⟩)) (hg : w.rangeAt b o cs)
    (hd : ds.isRow = true) (hi : (Try.prog.info? t).map (·.size) = some cs.length)
    (h : wpList Try.prog ops Q rest (a.put d (.agg cs.toArray)) w) :
    wpList Try.prog ops Q ({ dst := d, op := .load t x, type := ty, pos := pos, after := aft, guard := some gd } :: rest) a w :=
  wpList_step fun K hK => by
    rw [if_pos hw]
    exact wp_load_mid t x rfl b o hx cs ds hg hu hd hi (hK _ _ h)
/-- two values of one type are compared by their words -/
noncomputable def sameV {α : Type} (a b : α) : Bool := @decide (a = b) (Classical.propDecidable _)
theorem sameV_iff {α : Type} {a b : α} : sameV a b = true ↔ a = b := by unfold sameV; exact @decide_eq_true_iff (a = b) (Classical.propDecidable _)
theorem sameV_self {α : Type} (a : α) : sameV a a = true := sameV_iff.2 rfl
theorem sameV_comm {α : Type} (a b : α) : sameV a b = sameV b a := by rw [Bool.eq_iff_iff, sameV_iff, sameV_iff]; exact eq_comm
theorem equal_lits {α : Type} (t : TypeId) (a b : α) (x y : List Value) (la lb : List Lit) (hd : Try.prog.keyTypeAt 4 t = true) (fx : (Value.agg x.toArray).formed Try.prog t = true) (fy : (Value.agg y.toArray).formed Try.prog t = true) (lx : Try.prog.keyLits 4 t x = some la) (ly : Try.prog.keyLits 4 t y = some lb) (hi : la = lb ↔ a = b) (w : World) :
    Sem.run Try.prog (Op.equal t (.agg x.toArray) (.agg y.toArray)) w = .ok (sameV a b) w := by
  obtain ⟨r, hr, hiff⟩ := run_equalIn_deep (P := Try.prog) 9996 4 t hd w 4 4 (.agg x.toArray) (.agg y.toArray) la lb fx fy lx ly
  have e : sameV a b = r := by rw [Bool.eq_iff_iff, hiff, sameV_iff]; exact hi.symm
  rw [e]
  exact hr
theorem run_eql {α : Type} {t : TypeId} {a b : α} {x y : List Value} (h : ∀ w, Sem.run Try.prog (Op.equal t (.agg x.toArray) (.agg y.toArray)) w = .ok (sameV a b) w) (w : World) :
    Sem.run Try.prog (binOp .eql t (.agg x.toArray) (.agg y.toArray)) w = .ok (.bool (sameV a b)) w := by
  simp only [binOp, Sem.run_bind, h, Result.andThen_ok, Sem.run_pure]
theorem run_neq {α : Type} {t : TypeId} {a b : α} {x y : List Value} (h : ∀ w, Sem.run Try.prog (Op.equal t (.agg x.toArray) (.agg y.toArray)) w = .ok (sameV a b) w) (w : World) :
    Sem.run Try.prog (binOp .neq t (.agg x.toArray) (.agg y.toArray)) w = .ok (.bool (!sameV a b)) w := by
  simp only [binOp, Sem.run_bind, h, Result.andThen_ok, Sem.run_pure]
end Go.Proofs.Ytlmbnofkmmehoaa
