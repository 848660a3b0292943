/- texts of a claim, one after the other: the choices of the drawing package: what Next gives lies in its range, and nothing but the place in the codes is changed, numbers as bytes, texts, and small facts on conversions: no walk, the choices of the drawing package: New and Spoilt, small things about memory that all texts use, what all laws begin with: the choices, objects in memory, and what a walk keeps of them, cells as values, whether two cells are equal, as the program compares them, the choices of the drawing package: Data, the choices of the drawing package: Cell, changes as values, entries as values, which of them are valid, and how they are compared, what a walk keeps of memory: objects, slices of its own, choices; what was there is as it was, a slice that reads as these cells; what reads is appended to a slice of the walk's own, logs as values, and what the functions of chapter 6 answer, the walk of the reference's check of a cell, the walks of Valid of changes, the program's and the reference's, the walks of the functions that a rule of entries is made of, the walk of the table of rules, the walk of the program's check of an entry, the program's checks of a log -/
import Derived.Test.YtpmfdpkcnldpiaaDoorRows
import Derived.WalkKit
import Derived.WalkSpells
import Derived.WalkLawsBesides
import Derived.Lib.Hide
import Derived.Below
import Derived.RegionTactic
import Derived.ChangeAlike
import Derived.Deep.QuietTactic
import Derived.BigQuiet
import Derived.LoopN
import Derived.ProofKit
import Derived.OpenShut
import Derived.Deep.MidRow
import Derived.Deep.OwnRows
import Derived.Laws.CopyOwn
import Derived.KernelRfl
import Derived.BigRegion
import Derived.Deep.RegionWith
import Derived.Deep.RegionHeld3
import Derived.Deep.WholeRow
import Derived.Laws.ResultCell
import Derived.DeepKeys
import Derived.Maps.AppendAt
import Derived.Deep.DeepCutAuto
import Derived.Great.BuildSlice
import Derived.Shelf.Abstract
/- the choices of the drawing package: what Next gives lies in its range, and nothing but the place in the codes is changed -/
namespace Go.Proofs.YtpmfdpkcnldpiaaDoor
open Go.RowKit
set_option maxRecDepth 20000

/-- nothing that was there is changed, but for block C -/
structure Besides (C : Nat) (w w' : World) : Prop where
  os : w'.os = w.os
  tape : w'.tape = w.tape
  output : w'.output = w.output
  size : w.heap.size ≤ w'.heap.size
  block : ∀ k, k < w.heap.size → k ≠ C → w'.heap[k]? = w.heap[k]?
  head : C < w.heap.size → w'.cell? ⟨C, 0, none⟩ = w.cell? ⟨C, 0, none⟩
theorem Besides.refl (C : Nat) (w : World) : Besides C w w := ⟨rfl, rfl, rfl, Nat.le_refl _, fun _ _ _ => rfl, fun _ => rfl⟩
theorem Besides.trans {C : Nat} {a b c : World} (h : Besides C a b) (k : Besides C b c) : Besides C a c :=
  ⟨k.os.trans h.os, k.tape.trans h.tape, k.output.trans h.output, Nat.le_trans h.size k.size, fun i hi hC => (k.block i (Nat.lt_of_lt_of_le hi h.size) hC).trans (h.block i hi hC), fun hC => (k.head (Nat.lt_of_lt_of_le hC h.size)).trans (h.head hC)⟩
theorem Besides.of_below {C : Nat} {w w' : World} (h : Below w.heap.size w w') : Besides C w w' := ⟨h.os, h.tape, h.output, h.size, fun k hk _ => h.block k hk, fun hC => World.cell?_of_block (a := ⟨C, 0, none⟩) (h.block C hC)⟩
theorem Besides.below {C B : Nat} {w w' : World} (h : Besides C w w') (hC : B ≤ C) (hB : B ≤ w.heap.size) : Below B w w' := ⟨h.os, h.tape, h.output, h.size, fun k hk => h.block k (by omega) (by omega)⟩
theorem Besides.cell {C : Nat} {w w' : World} (h : Besides C w w') {p : Addr} (hp : p.block < w.heap.size) (hC : p.block ≠ C) : w'.cell? p = w.cell? p := World.cell?_of_block (h.block p.block hp hC)
theorem Besides.frozen {C : Nat} {w w' : World} (h : Besides C w w') {p : Addr} (hp : p.block < w.heap.size) (hC : p.block ≠ C) : w'.frozen? p = w.frozen? p := World.frozen?_of_block (h.block p.block hp hC)
theorem Besides.drewN {C : Nat} {a w : World} (h : Besides C a w) (n : Nat) : Besides C a (w.drewN n) := ⟨h.os, h.tape, h.output, h.size, h.block, h.head⟩
theorem Besides.drew {C : Nat} {a w : World} (h : Besides C a w) : Besides C a w.drew := ⟨h.os, h.tape, h.output, h.size, h.block, h.head⟩
theorem Besides.alloc {C : Nat} {a w : World} (h : Besides C a w) (o : Obj) : Besides C a (w.alloc o) :=
  h.trans ⟨rfl, rfl, rfl, by simp, fun k hk _ => Below.heap_alloc _ _ _ hk, fun hC => World.cell?_alloc_lt _ _ _ hC⟩
theorem Besides.set {C : Nat} {a w : World} (h : Besides C a w) (j : Nat) (u : Value) (hj : j ≠ 0) : Besides C a (w.setCell ⟨C, j, none⟩ u) :=
  h.trans ⟨rfl, rfl, rfl, by simp [World.setCell], fun k _ hC => Below.heap_setCell _ _ _ _ hC, fun _ => World.cell?_setCell_other _ _ _ _ (fun e => hj (by injection e))⟩
/-- a value of codes lies at block C -/
def CodesAt (w : World) (C : Nat) (a : Option Addr) (len cap : Nat) (i : Int) : Prop :=
  C < w.heap.size ∧ w.cell? ⟨C, 0, none⟩ = some (.slice a len cap) ∧ w.cell? ⟨C, 1, none⟩ = some (.int .i64 i) ∧ w.frozen? ⟨C, 1, none⟩ = false ∧ 0 ≤ i ∧ i ≤ 9223372036854775806 ∧ len ≤ 4611686018427387904
    ∧ (0 < len → ∃ b off, a = some ⟨b, off, none⟩ ∧ b < C ∧ ∀ j, j < len → ∃ z : Int, w.cell? ⟨b, off + j, none⟩ = some (.int .u8 z) ∧ 0 ≤ z ∧ z ≤ 255)
def CodesOk (w : World) (C : Nat) : Prop := ∃ a len cap i, CodesAt w C a len cap i
/-- codes stay codes while their block and older ones stay -/
theorem CodesAt.keep {w w' : World} {C len cap : Nat} {a : Option Addr} {i : Int} (h : CodesAt w C a len cap i) (hs : w.heap.size ≤ w'.heap.size) (hb : ∀ k, k ≤ C → w'.heap[k]? = w.heap[k]?) : CodesAt w' C a len cap i := by
  obtain ⟨h0, h1, h2, h3, h4, h5, h6, h7⟩ := h
  have cell : ∀ (k j : Nat), k ≤ C → w'.cell? ⟨k, j, none⟩ = w.cell? ⟨k, j, none⟩ := fun k j hk => World.cell?_of_block (a := ⟨k, j, none⟩) (hb k hk)
  refine ⟨by omega, by rw [cell C 0 (Nat.le_refl _), h1], by rw [cell C 1 (Nat.le_refl _), h2], by rw [World.frozen?_of_block (a := ⟨C, 1, none⟩) (hb C (Nat.le_refl _)), h3], h4, h5, h6, fun hl => ?_⟩
  obtain ⟨b, off, ha, hbC, hz⟩ := h7 hl
  exact ⟨b, off, ha, hbC, fun j hj => by rw [cell b (off + j) (by omega)]; exact hz j hj⟩
theorem CodesOk.below {w w' : World} {C B : Nat} (h : CodesOk w C) (hb : Below B w w') (hB : C < B) : CodesOk w' C := by
  obtain ⟨a, len, cap, i, h⟩ := h
  exact ⟨a, len, cap, i, h.keep hb.size (fun k hk => hb.block k (by omega))⟩
theorem CodesOk.drewN {w : World} {C : Nat} (h : CodesOk w C) (n : Nat) : CodesOk (w.drewN n) C := by
  obtain ⟨a, len, cap, i, h⟩ := h
  exact ⟨a, len, cap, i, h.keep (Nat.le_refl _) (fun _ _ => rfl)⟩
theorem CodesOk.lt {w : World} {C : Nat} (h : CodesOk w C) : C < w.heap.size := by
  obtain ⟨a, len, cap, i, h⟩ := h
  exact h.1
theorem CodesOk.drew {w : World} {C : Nat} (h : CodesOk w C) : CodesOk w.drew C := by
  obtain ⟨a, len, cap, i, h⟩ := h
  exact ⟨a, len, cap, i, h.keep (Nat.le_refl _) (fun _ _ => rfl)⟩
/-- the place goes on -/
theorem CodesAt.next {w : World} {C len cap : Nat} {a : Option Addr} {i : Int} (h : CodesAt w C a len cap i) (hi : i < len) : CodesOk (w.setCell ⟨C, 1, none⟩ (.int .i64 (i + 1))) C := by
  obtain ⟨h0, h1, h2, h3, h4, h5, h6, h7⟩ := h
  refine ⟨a, len, cap, i + 1, by simpa using h0, ?_, World.cell?_setCell_same w _ _ h2, by rw [World.frozen?_setCell]; exact h3, by omega, by omega, h6, fun hl => ?_⟩
  · rw [World.cell?_setCell_other w _ _ _ (by intro h; cases h)]; exact h1
  · obtain ⟨b, off, ha, hbC, hz⟩ := h7 hl
    refine ⟨b, off, ha, hbC, fun j hj => ?_⟩
    rw [World.cell?_setCell_other w _ _ _ (by intro h; injection h with h1 _ _; omega)]
    exact hz j hj
/-- what Next leaves -/
def NextPost (C : Nat) (n : Int) (w : World) (e : Ending) (w' : World) : Prop :=
  ∃ x : Int, e = .returned (.int .i64 x) ∧ 0 ≤ x ∧ (x < n ∨ x = 0) ∧ Besides C w w' ∧ CodesOk w' C
end Go.Proofs.YtpmfdpkcnldpiaaDoor
/- numbers as bytes, texts, and small facts on conversions: no walk -/
namespace Go.Proofs.YtpmfdpkcnldpiaaDoor
open Go.ChangeShapes Go.WideShapes Go.ChangeAt Go.RowKit


/-- byte k of a number -/
def leB (n : Int) (k : Nat) : UInt8 := UInt8.ofNat (n / 2 ^ (8 * k) % 256).toNat
theorem leB_toNat (n : Int) (k : Nat) : ((leB n k).toNat : Int) = n / 2 ^ (8 * k) % 256 := by
  unfold leB
  have h0 := Int.emod_nonneg (n / 2 ^ (8 * k)) (show (256 : Int) ≠ 0 by decide)
  have h1 := Int.emod_lt_of_pos (n / 2 ^ (8 * k)) (show (0 : Int) < 256 by decide)
  generalize n / 2 ^ (8 * k) % 256 = x at *
  rw [UInt8.toNat_ofNat']
  omega
/-- the lowest k bytes of a number -/
def leL (n : Int) (k : Nat) : List UInt8 := (List.range k).map (leB n)
def leS (n : Int) (k : Nat) : ByteArray := ⟨(leL n k).toArray⟩
theorem leL_length (n : Int) (k : Nat) : (leL n k).length = k := by simp [leL]
theorem leS_size (n : Int) (k : Nat) : (leS n k).size = k := by
  show (leL n k).toArray.size = k
  simp [leL_length]
theorem leL_succ (n : Int) (k : Nat) : leL n (k + 1) = leL n k ++ [leB n k] := by
  unfold leL; rw [List.range_succ, List.map_append]; rfl
theorem leL_getD (n : Int) (k j : Nat) (h : j < k) : (leL n k)[j]'(by rw [leL_length]; exact h) = leB n j := by
  simp [leL]
theorem str_eq {a b : ByteArray} (h : a.data.toList = b.data.toList) : a = b := by
  apply ByteArray.ext; apply Array.toList_inj.1; exact h
theorem str_app (a b : ByteArray) : (a ++ b).data.toList = a.data.toList ++ b.data.toList := by
  rw [ByteArray.data_append, Array.toList_append]
theorem ret_str {a b : ByteArray} (h : a = b) : Ending.returned (.string a) = .returned (.string b) := by rw [h]
theorem byte_of_u64 (n : Int) (k : Nat) (hk : k < 8) : IntKind.u64.wrap n / 2 ^ (8 * k) % 256 = ((leB n k).toNat : Int) := by
  rw [IntKind.wrap_u64, leB_toNat]
  match k, hk with
  | 0, _ => simp only [Nat.mul_zero, Int.pow_zero]; omega
  | 1, _ => simp only [show (2 : Int) ^ (8 * 1) = 256 from by decide]; omega
  | 2, _ => simp only [show (2 : Int) ^ (8 * 2) = 65536 from by decide]; omega
  | 3, _ => simp only [show (2 : Int) ^ (8 * 3) = 16777216 from by decide]; omega
  | 4, _ => simp only [show (2 : Int) ^ (8 * 4) = 4294967296 from by decide]; omega
  | 5, _ => simp only [show (2 : Int) ^ (8 * 5) = 1099511627776 from by decide]; omega
  | 6, _ => simp only [show (2 : Int) ^ (8 * 6) = 281474976710656 from by decide]; omega
  | 7, _ => simp only [show (2 : Int) ^ (8 * 7) = 72057594037927936 from by decide]; omega
/-- a text of one byte -/
theorem conv_one (w : World) (b : UInt8) : Sem.run Tryd.prog (convert 57 9 (.slice (some ⟨w.heap.size, 0, none⟩) 1 1)) (w.alloc (.cells #[.int .u8 (b.toNat : Int)] 5)) = .ok (.string ⟨#[b]⟩) (w.alloc (.cells #[.int .u8 (b.toNat : Int)] 5)) :=
  run_convert_bytes_back (P := Tryd.prog) (w.alloc (.cells #[.int .u8 (b.toNat : Int)] 5)) 57 9 5 ⟨w.heap.size, 0, none⟩ 1 [b] Tryd.underlying57 Tryd.underlying5 Tryd.underlying9 (fun j hj => by
    have : j = 0 := by simpa using hj
    subst this
    show (w.alloc _).cell? ⟨w.heap.size, 0, none⟩ = _
    rw [World.cell?_alloc_new]; rfl)
/-- the number in bytes, without a sign -/
def leNum (s : ByteArray) (at_ : Nat) : Nat → Nat
  | 0 => 0
  | k + 1 => leNum s at_ k + (s.data.toList.getD (at_ + k) 0).toNat * 256 ^ k
theorem leNum_lt (s : ByteArray) (at_ k : Nat) : leNum s at_ k < 256 ^ k := by
  induction k with
  | zero => simp [leNum]
  | succ k ih =>
    have hb : (s.data.toList.getD (at_ + k) 0).toNat ≤ 255 := by have := (s.data.toList.getD (at_ + k) 0).toNat_lt; omega
    have hm := Nat.mul_le_mul_right (256 ^ k) hb
    rw [leNum, Nat.pow_succ]
    omega
theorem getD_at (s : ByteArray) (i : Nat) (h : i < s.size) : s.data.toList.getD i 0 = s[i] := by
  have h' : i < s.data.toList.length := by simpa using h
  rw [List.getD_eq_getElem?_getD, List.getElem?_eq_getElem h', Option.getD_some]; rfl
theorem ofInt_wrap (k : IntKind) (x : Int) : BitVec.ofInt k.bits (k.wrap x) = BitVec.ofInt k.bits x := by
  apply BitVec.eq_of_toInt_eq
  rw [BitVec.toInt_ofInt, BitVec.toInt_ofInt]
  have : (k.wrap x) % (2 ^ k.bits : Nat) = x % (2 ^ k.bits : Nat) := by
    unfold IntKind.wrap
    simp only []
    split
    · rw [show ((2 : Int) ^ k.bits) = ((2 ^ k.bits : Nat) : Int) from by simp, Int.sub_emod_right, Int.emod_emod]
    · rw [show ((2 : Int) ^ k.bits) = ((2 ^ k.bits : Nat) : Int) from by simp, Int.emod_emod]
  rw [← Int.emod_bmod, this, Int.emod_bmod]
theorem w64 (n : Int) : IntKind.i64.wrap n = wrap64 n := by rw [IntKind.wrap_i64]; unfold wrap64; rfl
/-- a byte more, by 'or': whatever the kind of 64 bits -/
theorem or_nat (X b k : Nat) (hX : X < 256 ^ k) (hb : b < 256) (hk : k < 8) :
    (BitVec.ofInt 64 (X : Int) ||| BitVec.ofInt 64 ((b : Int) * 2 ^ (8 * k))).toNat = X + b * 256 ^ k := by
  have e1 : (2 : Int) ^ (8 * k) = ((256 ^ k : Nat) : Int) := by
    rw [show (256 : Nat) = 2 ^ 8 from rfl, ← Nat.pow_mul]; simp
  have e2 : (b : Int) * 2 ^ (8 * k) = ((b * 256 ^ k : Nat) : Int) := by rw [e1]; simp
  have hle : 256 ^ k * 256 ≤ 2 ^ 64 := by
    have : 256 ^ (k + 1) ≤ 256 ^ 8 := Nat.pow_le_pow_right (by decide) (by omega)
    rw [Nat.pow_succ] at this
    exact this
  have hbk : b * 256 ^ k ≤ 255 * 256 ^ k := Nat.mul_le_mul_right _ (by omega)
  rw [e2, BitVec.ofInt_natCast, BitVec.ofInt_natCast, BitVec.toNat_or, BitVec.toNat_ofNat, BitVec.toNat_ofNat, Nat.mod_eq_of_lt (by omega), Nat.mod_eq_of_lt (by omega)]
  have e3 : 256 ^ k = 2 ^ (8 * k) := by rw [show (256 : Nat) = 2 ^ 8 from rfl, ← Nat.pow_mul]
  rw [e3] at hX ⊢
  rw [Nat.or_comm, Nat.mul_comm b, ← Nat.two_pow_add_eq_or_of_lt hX, Nat.add_comm]
theorem or_i64 (X b k : Nat) (hX : X < 256 ^ k) (hb : b < 256) (hk : k < 8) :
    bits .or .i64 (wrap64 (X : Int)) (wrap64 (wrap64 (b : Int) * 2 ^ (8 * k))) = wrap64 ((X + b * 256 ^ k : Nat) : Int) := by
  have w1 : wrap64 (b : Int) = (b : Int) := IntWalk.wrap64_in _ ⟨by omega, by omega⟩
  rw [w1]
  show IntKind.i64.wrap ((BitVec.ofInt 64 (wrap64 (X : Int)) ||| BitVec.ofInt 64 (wrap64 ((b : Int) * 2 ^ (8 * k)))).toNat : Int) = _
  have a1 : BitVec.ofInt 64 (wrap64 (X : Int)) = BitVec.ofInt 64 (X : Int) := by rw [← w64]; exact ofInt_wrap .i64 _
  have a2 : BitVec.ofInt 64 (wrap64 ((b : Int) * 2 ^ (8 * k))) = BitVec.ofInt 64 ((b : Int) * 2 ^ (8 * k)) := by rw [← w64]; exact ofInt_wrap .i64 _
  rw [a1, a2, or_nat X b k hX hb hk, w64]
theorem wrap64_0 : wrap64 0 = 0 := IntWalk.wrap64_in 0 (by omega)
theorem or_u64 (X b k : Nat) (hX : X < 256 ^ k) (hb : b < 256) (hk : k < 8) :
    bits .or .u64 (X : Int) (IntKind.u64.wrap (IntKind.u64.wrap (b : Int) * 2 ^ (8 * k))) = ((X + b * 256 ^ k : Nat) : Int) := by
  have w1 : IntKind.u64.wrap (b : Int) = (b : Int) := by rw [IntKind.wrap_u64]; omega
  rw [w1]
  show IntKind.u64.wrap ((BitVec.ofInt 64 (X : Int) ||| BitVec.ofInt 64 (IntKind.u64.wrap ((b : Int) * 2 ^ (8 * k)))).toNat : Int) = _
  have a2 : BitVec.ofInt 64 (IntKind.u64.wrap ((b : Int) * 2 ^ (8 * k))) = BitVec.ofInt 64 ((b : Int) * 2 ^ (8 * k)) := ofInt_wrap .u64 _
  rw [a2]
  have hlt := (BitVec.ofInt 64 (X : Int) ||| BitVec.ofInt 64 ((b : Int) * 2 ^ (8 * k))).isLt
  rw [or_nat X b k hX hb hk] at hlt ⊢
  rw [IntKind.wrap_u64]
  omega
theorem u64_in (x : Nat) (h : x < 18446744073709551616) : IntKind.u64.wrap (x : Int) = (x : Int) := by rw [IntKind.wrap_u64]; omega
/-- what Get answers, for every text and all numbers -/
def getR (s : ByteArray) (a z : Int) : Int × Int :=
  if (z < 1 ∨ 8 < z) ∨ a < 0 then (0, 1) else if (s.size : Int) < a + z then (0, 5) else (wrap64 (leNum s a.toNat z.toNat), 0)
/-- what Put answers -/
def putR (s : ByteArray) (n z : Int) : ByteArray := if z < 1 ∨ 8 < z then s else s ++ leS n z.toNat
/-- a text of one byte, at any world -/
theorem conv_at (W : World) (A : Nat) (y : Int) (y0 : 0 ≤ y) (y1 : y ≤ 255) (h : W.cell? ⟨A, 0, none⟩ = some (.int .u8 y)) : Sem.run Tryd.prog (convert 57 9 (.slice (some ⟨A, 0, none⟩) 1 1)) W = .ok (.string ⟨#[UInt8.ofNat y.toNat]⟩) W := by
  refine run_convert_bytes_back (P := Tryd.prog) W 57 9 5 ⟨A, 0, none⟩ 1 [UInt8.ofNat y.toNat] Tryd.underlying57 Tryd.underlying5 Tryd.underlying9 (fun j hj => ?_)
  have : j = 0 := by simpa using hj
  subst this
  show W.cell? ⟨A, 0, none⟩ = _
  rw [h]
  show some (Value.int .u8 y) = some (Value.int .u8 (((UInt8.ofNat y.toNat).toNat : Nat) : Int))
  rw [UInt8.toNat_ofNat', show ((y.toNat % 2 ^ 8 : Nat) : Int) = y from by omega]
theorem xor_in (a b : Int) : 0 ≤ bits .xor .u8 a b ∧ bits .xor .u8 a b ≤ 255 := by
  show 0 ≤ IntKind.u8.wrap ((BitVec.ofInt 8 a ^^^ BitVec.ofInt 8 b).toNat : Int) ∧ IntKind.u8.wrap ((BitVec.ofInt 8 a ^^^ BitVec.ofInt 8 b).toNat : Int) ≤ 255
  rw [IntKind.wrap_u8']
  omega
theorem conv_ex (w : World) (a b : Int) : ∃ (y : Int) (u : UInt8), bits .xor .u8 a b = y ∧ Sem.run Tryd.prog (convert 57 9 (.slice (some ⟨w.heap.size, 0, none⟩) 1 1)) (w.alloc (.cells #[.int .u8 y] 5)) = .ok (.string ⟨#[u]⟩) (w.alloc (.cells #[.int .u8 y] 5)) :=
  ⟨_, _, rfl, conv_at _ _ _ (xor_in a b).1 (xor_in a b).2 (by rw [World.cell?_alloc_new]; rfl)⟩
theorem size_one (b : UInt8) : (⟨#[b]⟩ : ByteArray).size = 1 := rfl
theorem byte_of_wf {n : Int} (h : (Lit.int .u8 n).wf = true) : ∃ b : UInt8, n = (b.toNat : Int) := by
  have := bounds_u8 h
  refine ⟨UInt8.ofNat n.toNat, ?_⟩
  rw [UInt8.toNat_ofNat']
  omega

theorem leNum_of (s : ByteArray) (a : Nat) (n : Int) (k : Nat) (h : ∀ i, i < k → s.data.toList.getD (a + i) 0 = leB n i) : (leNum s a k : Int) = n % 2 ^ (8 * k) := by
  induction k with
  | zero => simp [leNum, Int.emod_one]
  | succ k ih =>
    have ih' := ih (fun i hi => h i (by omega))
    rw [leNum, h k (by omega)]
    have hb := leB_toNat n k
    have e1 : (2 : Int) ^ (8 * (k + 1)) = 2 ^ (8 * k) * 256 := by rw [show 8 * (k + 1) = 8 * k + 8 from by omega, Int.pow_add]; rfl
    have e2 : ((256 ^ k : Nat) : Int) = 2 ^ (8 * k) := by rw [show (256 : Nat) = 2 ^ 8 from rfl, ← Nat.pow_mul]; simp
    have hp : (0 : Int) < 2 ^ (8 * k) := Int.pow_pos (by decide)
    rw [Int.natCast_add, Int.natCast_mul, e2, ih', hb, e1]
    generalize (2 : Int) ^ (8 * k) = q at *
    have c0 := Int.emod_add_mul_ediv n q
    have c1 := Int.emod_add_mul_ediv (n / q) 256
    have b0 := Int.emod_nonneg n (show q ≠ 0 by omega)
    have b1 := Int.emod_lt_of_pos n hp
    have b2 := Int.emod_nonneg (n / q) (show (256 : Int) ≠ 0 by decide)
    have b3 := Int.emod_lt_of_pos (n / q) (show (0 : Int) < 256 by decide)
    have hn : n = (n % q + q * (n / q % 256)) + q * 256 * (n / q / 256) := by
      rw [Int.mul_assoc, Int.add_assoc, ← Int.mul_add, c1, c0]
    have hr0 : 0 ≤ n % q + q * (n / q % 256) := Int.add_nonneg b0 (Int.mul_nonneg (by omega) b2)
    have hr1 : n % q + q * (n / q % 256) < q * 256 := by
      have : q * (n / q % 256) ≤ q * 255 := Int.mul_le_mul_of_nonneg_left (by omega) (by omega)
      omega
    conv => rhs; rw [hn]
    rw [Int.add_mul_emod_self_left, Int.emod_eq_of_lt hr0 hr1, Int.mul_comm]

theorem leNum_congr (s t : ByteArray) (a : Nat) (k : Nat) (h : ∀ i, i < k → s.data.toList.getD (a + i) 0 = t.data.toList.getD (a + i) 0) : leNum s a k = leNum t a k := by
  induction k with
  | zero => rfl
  | succ k ih => rw [leNum, leNum, ih (fun i hi => h i (by omega)), h k (by omega)]
theorem leNum_inj (s t : ByteArray) (a : Nat) (k : Nat) (h : leNum s a k = leNum t a k) : ∀ i, i < k → s.data.toList.getD (a + i) 0 = t.data.toList.getD (a + i) 0 := by
  induction k with
  | zero => intro i hi; omega
  | succ k ih =>
    rw [leNum, leNum] at h
    have h1 := leNum_lt s a k
    have h2 := leNum_lt t a k
    have hp : 0 < 256 ^ k := Nat.pow_pos (by decide)
    have e1 := congrArg (fun x => x / 256 ^ k) h
    have e2 := congrArg (fun x => x % 256 ^ k) h
    simp only [Nat.add_mul_div_right _ _ hp, Nat.div_eq_of_lt h1, Nat.div_eq_of_lt h2, Nat.zero_add] at e1
    simp only [Nat.add_mul_mod_self_right, Nat.mod_eq_of_lt h1, Nat.mod_eq_of_lt h2] at e2
    intro i hi
    by_cases hk : i = k
    · subst hk; exact UInt8.toNat_inj.1 e1
    · exact ih e2 i (by omega)
theorem size_list (s : ByteArray) : s.data.toList.length = s.size := by simp
theorem extract_list (s : ByteArray) (a b : Nat) : (s.extract a b).data.toList = (s.data.toList.take b).drop a := by
  rw [ByteArray.data_extract, Array.toList_extract, List.extract_eq_take_drop, List.take_drop]
  by_cases h : a ≤ b
  · rw [Nat.add_sub_cancel' h]
  · rw [show a + (b - a) = a from by omega]
    have h1 : (List.take a s.data.toList).drop a = [] := List.drop_eq_nil_of_le (by simp; omega)
    have h2 : (List.take b s.data.toList).drop a = [] := List.drop_eq_nil_of_le (by simp; omega)
    rw [h1, h2]
theorem leL_get (n : Int) (k i : Nat) (h : i < k) : (leL n k).getD i 0 = leB n i := by
  rw [List.getD_eq_getElem?_getD, List.getElem?_eq_getElem (by rw [leL_length]; exact h), Option.getD_some, leL_getD n k i h]
theorem getD_left (a b : List UInt8) (i : Nat) (h : i < a.length) : (a ++ b).getD i 0 = a.getD i 0 := by
  rw [List.getD_eq_getElem?_getD, List.getElem?_append_left h, ← List.getD_eq_getElem?_getD]
theorem getD_right (a b : List UInt8) (i : Nat) : (a ++ b).getD (a.length + i) 0 = b.getD i 0 := by
  rw [List.getD_eq_getElem?_getD, List.getElem?_append_right (by omega), Nat.add_sub_cancel_left, ← List.getD_eq_getElem?_getD]

/-- a slice of integers that came in: nil, or a row of cells with the numbers zs -/
def IsRow (k : IntKind) (w : World) (a : Option Addr) (len cap : Nat) (zs : List Int) : Prop :=
  (a = none ∧ len = 0 ∧ cap = 0 ∧ zs = []) ∨
  ∃ x, a = some x ∧ len ≤ cap ∧ cap ≤ maxLen ∧ zs.length = cap ∧ (∀ i, i < zs.length → w.cell? (x.add i) = some (.int k (zs.getD i 0))) ∧ ∀ n ∈ zs, (Lit.int k n).wf = true
end Go.Proofs.YtpmfdpkcnldpiaaDoor
/- the choices of the drawing package: New and Spoilt -/
namespace Go.Proofs.YtpmfdpkcnldpiaaDoor
open Go.RowKit
set_option maxRecDepth 20000
end Go.Proofs.YtpmfdpkcnldpiaaDoor
/- small things about memory that all texts use -/
namespace Go.Proofs.YtpmfdpkcnldpiaaDoor
open Go.RowKit
set_option maxRecDepth 20000

theorem all_false {α : Type} {l : List α} {f : α → Bool} {c : α} (h : c ∈ l) (hf : f c = false) : l.all f = false := by
  rw [List.all_eq_false]; exact ⟨c, h, by rw [hf]; decide⟩
theorem ret_bool {a b : Bool} (h : a = b) : Ending.returned (.bool a) = .returned (.bool b) := by rw [h]
theorem heap_alloc_last (w : World) (o : Obj) : (w.alloc o).heap[w.heap.size]? = some o := by
  show (w.heap.push o)[w.heap.size]? = some o
  simp
theorem Besides.then_below {C : Nat} {a w w' : World} (h : Besides C a w) (hb : Below a.heap.size w w') : Besides C a w' :=
  ⟨hb.os.trans h.os, hb.tape.trans h.tape, hb.output.trans h.output, Nat.le_trans h.size hb.size, fun k hk hC => (hb.block k hk).trans (h.block k hk hC), fun hC => (World.cell?_of_block (a := ⟨C, 0, none⟩) (hb.block C hC)).trans (h.head hC)⟩
theorem Besides.setOwn {C B : Nat} {a w : World} (h : Besides C a w) (hB : a.heap.size ≤ B) (j : Nat) (u : Value) : Besides C a (w.setCell ⟨B, j, none⟩ u) :=
  h.then_below ((Below.refl _ _).setCell (p := ⟨B, j, none⟩) hB u)
theorem CodesOk.setOwn {C B : Nat} {w : World} (h : CodesOk w C) (hB : C < B) (j : Nat) (u : Value) : CodesOk (w.setCell ⟨B, j, none⟩ u) C :=
  h.below ((Below.refl B w).setCell (p := ⟨B, j, none⟩) (Nat.le_refl _) u) hB
theorem info_byte : (Tryd.prog.info? 5).map (fun i => (i.zero, i.size, i.bytes)) = some (some (.int .u8 0), 1, 1) := by kernel_rfl
theorem info_of {t : TypeId} {z : Value} {s b : Nat} (h : (Tryd.prog.info? t).map (fun i => (i.zero, i.size, i.bytes)) = some (some z, s, b)) : ∃ i, Tryd.prog.info? t = some i ∧ i.zero = some z ∧ i.size = s ∧ i.bytes = b := by
  cases e : Tryd.prog.info? t with
  | none => rw [e] at h; cases h
  | some i =>
    rw [e] at h
    simp only [Option.map_some, Option.some.injEq, Prod.mk.injEq] at h
    exact ⟨i, rfl, h.1, h.2.1, h.2.2⟩
theorem info_byte' : ∃ i, Tryd.prog.info? 5 = some i ∧ i.zero = some (.int .u8 0) ∧ i.size = 1 ∧ i.bytes = 1 := info_of info_byte
end Go.Proofs.YtpmfdpkcnldpiaaDoor
/- what all laws begin with: the choices -/
namespace Go.Proofs.YtpmfdpkcnldpiaaDoor
open Go.RowKit
set_option maxRecDepth 20000

/-- the codes' own slice -/
def CodesRow (W : World) (B : Nat) (a : Option Addr) (len : Nat) : Prop := ∃ l c, W.cell? ⟨B, 0, none⟩ = some (.slice a l c) ∧ (0 < l → 0 < len)
theorem row_below {w w1 : World} {x : Option Addr} {len cap : Nat} {zs : List Int} (hr : IsRow .u8 w x len cap zs) (hb : Below w.heap.size w w1) : IsRow .u8 w1 x len cap zs := by
  rcases hr with h | ⟨b, hb1, hb2, hb3, hb4, hb5, hb6⟩
  · exact .inl h
  · refine .inr ⟨b, hb1, hb2, hb3, hb4, fun j hj => ?_, hb6⟩
    have hc := hb5 j hj
    rw [hb.cell (World.block_lt_of_cell? w _ hc)]
    exact hc
end Go.Proofs.YtpmfdpkcnldpiaaDoor
/- objects in memory, and what a walk keeps of them -/
namespace Go.Proofs.YtpmfdpkcnldpiaaDoor
open Go.RowKit
set_option maxRecDepth 20000

/-- an object: a block of cells -/
structure Ob where
  b : Nat
  t : TypeId
  cs : List Value
def Ob.In (o : Ob) (W : World) : Prop := W.heap[o.b]? = some (.cells o.cs.toArray o.t (0, 0))
theorem Ob.In.lt {o : Ob} {W : World} (h : o.In W) : o.b < W.heap.size := (Array.getElem?_eq_some_iff.1 h).1
theorem Ob.In.below {o : Ob} {W W' : World} {B : Nat} (h : o.In W) (hb : Below B W W') (hB : o.b < B) : o.In W' := (hb.block _ hB).trans h
theorem Ob.In.calls {o : Ob} {W W' : World} (h : o.In W) (hb : Below W.heap.size W W') : o.In W' := h.below hb h.lt
theorem Ob.In.besides {o : Ob} {W W' : World} {C : Nat} (h : o.In W) (hb : Besides C W W') (hC : o.b ≠ C) : o.In W' := (hb.block _ h.lt hC).trans h
theorem Ob.In.cell {o : Ob} {W : World} (h : o.In W) (k : Nat) : W.cell? ⟨o.b, k, none⟩ = o.cs[k]? := by
  rw [cell_of_row W o.b k _ _ _ h, List.getElem?_toArray]
theorem Ob.In.at {o : Ob} {W : World} (h : o.In W) (k : Nat) {v : Value} (hv : o.cs[k]? = some v) : W.cell? ⟨o.b, k, none⟩ = some v := (h.cell k).trans hv
theorem Ob.In.frozen {o : Ob} {W : World} (h : o.In W) (k : Nat) : W.frozen? ⟨o.b, k, none⟩ = false := frozen_of_row _ _ _ _ _ h
theorem Ob.In.range {o : Ob} {W : World} (h : o.In W) (k : Nat) (vs : List Value) (hv : ∀ j v, vs[j]? = some v → o.cs[k + j]? = some v) : W.rangeAt o.b k vs := fun j v e => by
  rw [h.cell, hv j v e]
theorem Ob.In.whole {o : Ob} {W : World} (h : o.In W) : W.rangeAt o.b 0 o.cs := h.range 0 _ (fun j v e => by rw [Nat.zero_add]; exact e)
theorem Ob.In.there {o : Ob} {W : World} (h : o.In W) (k n : Nat) (hn : k + n ≤ o.cs.length) : W.there o.b k n := fun j hj => by
  rw [h.cell, h.frozen, List.getElem?_eq_getElem (by omega)]
  exact ⟨rfl, rfl⟩
theorem Ob.In.set {o : Ob} {W : World} (h : o.In W) (k : Nat) (v : Value) : Ob.In ⟨o.b, o.t, o.cs.set k v⟩ (W.setCell ⟨o.b, k, none⟩ v) := by
  have := heap_setCell_same W o.b k _ _ v h
  rw [List.setIfInBounds_toArray] at this
  exact this
theorem Ob.In.other {o : Ob} {W : World} (h : o.In W) (b k : Nat) (v : Value) (hb : o.b ≠ b) : o.In (W.setCell ⟨b, k, none⟩ v) := (Below.heap_setCell _ _ _ _ hb).trans h
theorem Ob.In.drew {o : Ob} {W : World} (h : o.In W) : o.In W.drew := h

/-- what was there is as it was, and these objects lie in new memory -/
structure Fr (w : World) (L : List Ob) (W : World) : Prop where
  old : Below w.heap.size w W
  obs : ∀ o ∈ L, o.In W
  new : ∀ o ∈ L, w.heap.size ≤ o.b
  nd : L.Pairwise fun o o' => o.b ≠ o'.b
theorem Fr.start (w : World) : Fr w [] w := ⟨Below.refl _ _, by simp, by simp, .nil⟩
theorem Fr.at {w W : World} {L : List Ob} (h : Fr w L W) (i : Nat) {o : Ob} (e : L[i]? = some o) : o.In W := h.obs _ (List.mem_of_getElem? e)
theorem Fr.get {w W : World} {L : List Ob} (h : Fr w L W) (i : Nat) {b : Nat} {t : TypeId} {cs : List Value} (e : L[i]? = some ⟨b, t, cs⟩) : W.heap[b]? = some (.cells cs.toArray t (0, 0)) := h.at i e
theorem Fr.drew {w W : World} {L : List Ob} (h : Fr w L W) : Fr w L W.drew := ⟨h.old.drew, h.obs, h.new, h.nd⟩
theorem Fr.drewN {w W : World} {L : List Ob} (h : Fr w L W) (q : Nat) : Fr w L (W.drewN q) := ⟨⟨h.old.os, h.old.tape, h.old.output, h.old.size, h.old.block⟩, h.obs, h.new, h.nd⟩
theorem Fr.calls {w W W' : World} {L : List Ob} (h : Fr w L W) (hb : Below W.heap.size W W') : Fr w L W' :=
  ⟨h.old.trans (hb.mono h.old.size), fun o ho => (h.obs o ho).calls hb, h.new, h.nd⟩
theorem Fr.besides {w W W' : World} {L : List Ob} {C : Nat} (h : Fr w L W) (hb : Besides C W W') (hw : w.heap.size ≤ C) (hC : ∀ o ∈ L, o.b ≠ C) : Fr w L W' :=
  ⟨h.old.trans (hb.below hw h.old.size), fun o ho => (h.obs o ho).besides hb (hC o ho), h.new, h.nd⟩
theorem Fr.put {w W : World} {L : List Ob} (h : Fr w L W) (t : TypeId) (cs : List Value) : Fr w (L ++ [⟨W.heap.size, t, cs⟩]) (W.alloc (.cells cs.toArray t)) := by
  refine ⟨h.old.trans (((Below.refl _ _).alloc (Nat.le_refl _) _).mono h.old.size), fun o ho => ?_, fun o ho => ?_, ?_⟩
  · rcases List.mem_append.1 ho with ho | ho
    · exact (h.obs o ho).calls ((Below.refl _ _).alloc (Nat.le_refl _) _)
    · obtain rfl := List.mem_singleton.1 ho
      exact heap_alloc_last W _
  · rcases List.mem_append.1 ho with ho | ho
    · exact h.new o ho
    · obtain rfl := List.mem_singleton.1 ho
      exact h.old.size
  · rw [List.pairwise_append]
    refine ⟨h.nd, List.pairwise_singleton _ _, fun a ha b hb => ?_⟩
    obtain rfl := List.mem_singleton.1 hb
    have := (h.obs a ha).lt
    show a.b ≠ W.heap.size
    omega
theorem pair_ne {L : List Ob} (hn : L.Pairwise fun o o' => o.b ≠ o'.b) : ∀ (i j : Nat) (x y : Ob), L[i]? = some x → L[j]? = some y → i ≠ j → x.b ≠ y.b := by
  induction L with
  | nil => intro i j x y hx; simp at hx
  | cons z l ih =>
    rw [List.pairwise_cons] at hn
    intro i j x y hx hy hij
    cases i with
    | zero =>
      cases j with
      | zero => exact absurd rfl hij
      | succ j =>
        obtain rfl : z = x := by simpa using hx
        exact hn.1 y (List.mem_of_getElem? (by simpa using hy))
    | succ i =>
      cases j with
      | zero =>
        obtain rfl : z = y := by simpa using hy
        exact fun e => hn.1 x (List.mem_of_getElem? (by simpa using hx)) e.symm
      | succ j => exact ih hn.2 i j x y (by simpa using hx) (by simpa using hy) (by omega)
theorem Fr.ne {w W : World} {L : List Ob} (h : Fr w L W) (i j : Nat) {b c : Nat} {t u : TypeId} {x y : List Value} (ei : L[i]? = some ⟨b, t, x⟩) (ej : L[j]? = some ⟨c, u, y⟩) (hij : i ≠ j) : b ≠ c := pair_ne h.nd i j _ _ ei ej hij
theorem pair_set {L : List Ob} {i : Nat} {o : Ob} (hn : L.Pairwise fun o o' => o.b ≠ o'.b) (e : L[i]? = some o) (o' : Ob) (hb : o'.b = o.b) : (L.set i o').Pairwise fun o o' => o.b ≠ o'.b := by
  induction L generalizing i with
  | nil => simp at e
  | cons x l ih =>
    rw [List.pairwise_cons] at hn
    cases i with
    | zero =>
      obtain rfl : x = o := by simpa using e
      rw [List.set_cons_zero, List.pairwise_cons]
      exact ⟨fun y hy => by rw [hb]; exact hn.1 y hy, hn.2⟩
    | succ i =>
      have e' : l[i]? = some o := by simpa using e
      rw [List.set_cons_succ, List.pairwise_cons]
      refine ⟨fun y hy => ?_, ih hn.2 e'⟩
      rcases List.mem_or_eq_of_mem_set hy with hy | rfl
      · exact hn.1 y hy
      · rw [hb]; exact hn.1 o (List.mem_of_getElem? e')
theorem other_of {L : List Ob} {i : Nat} {o x : Ob} (hn : L.Pairwise fun o o' => o.b ≠ o'.b) (e : L[i]? = some o) (o' : Ob) (hx : x ∈ L.set i o') : x = o' ∨ (x ∈ L ∧ x.b ≠ o.b) := by
  induction L generalizing i with
  | nil => simp at e
  | cons y l ih =>
    rw [List.pairwise_cons] at hn
    cases i with
    | zero =>
      obtain rfl : y = o := by simpa using e
      rw [List.set_cons_zero] at hx
      rcases List.mem_cons.1 hx with rfl | hx
      · exact .inl rfl
      · exact .inr ⟨List.mem_cons_of_mem _ hx, fun e => hn.1 x hx e.symm⟩
    | succ i =>
      have e' : l[i]? = some o := by simpa using e
      rw [List.set_cons_succ] at hx
      rcases List.mem_cons.1 hx with rfl | hx
      · exact .inr ⟨List.mem_cons_self .., hn.1 o (List.mem_of_getElem? e')⟩
      · rcases ih hn.2 e' hx with h | h
        · exact .inl h
        · exact .inr ⟨List.mem_cons_of_mem _ h.1, h.2⟩
/-- an object turned, the others as they were -/
theorem Fr.turn {w W W' : World} {L : List Ob} (h : Fr w L W) (i : Nat) {o : Ob} (e : L[i]? = some o) (cs : List Value) (hn : Ob.In ⟨o.b, o.t, cs⟩ W') (ho : ∀ k, k ≠ o.b → W'.heap[k]? = W.heap[k]?) (hos : W'.os = W.os) (ht : W'.tape = W.tape) (hout : W'.output = W.output) (hs : W.heap.size ≤ W'.heap.size) :
    Fr w (L.set i ⟨o.b, o.t, cs⟩) W' := by
  have hm := List.mem_of_getElem? e
  refine ⟨⟨hos.trans h.old.os, ht.trans h.old.tape, hout.trans h.old.output, Nat.le_trans h.old.size hs, fun k hk => (ho k (by have := h.new o hm; omega)).trans (h.old.block k hk)⟩, fun x hx => ?_, fun x hx => ?_, pair_set h.nd e _ rfl⟩
  · rcases other_of h.nd e _ hx with rfl | ⟨hx, hb⟩
    · exact hn
    · exact (ho x.b hb).trans (h.obs x hx)
  · rcases other_of h.nd e _ hx with rfl | ⟨hx, hb⟩
    · exact h.new o hm
    · exact h.new x hx
theorem Fr.set {w W : World} {L : List Ob} (h : Fr w L W) (i : Nat) {o : Ob} (e : L[i]? = some o) (k : Nat) (v : Value) : Fr w (L.set i ⟨o.b, o.t, o.cs.set k v⟩) (W.setCell ⟨o.b, k, none⟩ v) :=
  h.turn i e _ ((h.at i e).set k v) (fun j hj => Below.heap_setCell _ _ _ _ hj) rfl rfl rfl (by simp [World.setCell])
theorem Fr.row {w W : World} {L : List Ob} (h : Fr w L W) (i : Nat) {o : Ob} (e : L[i]? = some o) (cs : List Value) : Fr w (L.set i ⟨o.b, o.t, cs⟩) (W.setRow o.b cs.toArray) :=
  h.turn i e _ (setRow_heap _ _ _ _ _ _ (h.at i e)) (fun j hj => setRow_other _ _ _ _ hj) rfl rfl rfl (by simp [World.setRow])

/-- the same, and choices at block C -/
structure St (w : World) (C : Nat) (L : List Ob) (W : World) : Prop where
  fr : Fr w L W
  codes : CodesOk W C
  le : w.heap.size ≤ C
  ne : ∀ o ∈ L, o.b ≠ C
theorem St.old {w W : World} {C : Nat} {L : List Ob} (h : St w C L W) : Below w.heap.size w W := h.fr.old
theorem St.at {w W : World} {C : Nat} {L : List Ob} (h : St w C L W) (i : Nat) {o : Ob} (e : L[i]? = some o) : o.In W := h.fr.at i e
theorem St.get {w W : World} {C : Nat} {L : List Ob} (h : St w C L W) (i : Nat) {b : Nat} {t : TypeId} {cs : List Value} (e : L[i]? = some ⟨b, t, cs⟩) : W.heap[b]? = some (.cells cs.toArray t (0, 0)) := h.fr.at i e
theorem St.drew {w W : World} {C : Nat} {L : List Ob} (h : St w C L W) : St w C L W.drew := ⟨h.fr.drew, h.codes.drew, h.le, h.ne⟩
theorem St.drewN {w W : World} {C : Nat} {L : List Ob} (h : St w C L W) (q : Nat) : St w C L (W.drewN q) := ⟨h.fr.drewN q, h.codes.drewN q, h.le, h.ne⟩
theorem St.calls {w W W' : World} {C : Nat} {L : List Ob} (h : St w C L W) (hb : Below W.heap.size W W') : St w C L W' := ⟨h.fr.calls hb, h.codes.below hb h.codes.lt, h.le, h.ne⟩
theorem St.draws {w W W' : World} {C : Nat} {L : List Ob} (h : St w C L W) (hb : Besides C W W') (hc : CodesOk W' C) : St w C L W' := ⟨h.fr.besides hb h.le h.ne, hc, h.le, h.ne⟩
theorem St.put {w W : World} {C : Nat} {L : List Ob} (h : St w C L W) (t : TypeId) (cs : List Value) : St w C (L ++ [⟨W.heap.size, t, cs⟩]) (W.alloc (.cells cs.toArray t)) :=
  ⟨h.fr.put t cs, h.codes.below ((Below.refl _ _).alloc (Nat.le_refl _) _) h.codes.lt, h.le, fun o ho => by
    rcases List.mem_append.1 ho with ho | ho
    · exact h.ne o ho
    · obtain rfl := List.mem_singleton.1 ho
      have := h.codes.lt
      show W.heap.size ≠ C
      omega⟩
theorem ne_set {L : List Ob} {i : Nat} {o o' : Ob} {C : Nat} (h : ∀ x ∈ L, x.b ≠ C) (e : L[i]? = some o) (hb : o'.b = o.b) : ∀ x ∈ L.set i o', x.b ≠ C := fun x hx => by
  rcases List.mem_or_eq_of_mem_set hx with hx | rfl
  · exact h x hx
  · rw [hb]; exact h o (List.mem_of_getElem? e)
theorem St.set {w W : World} {C : Nat} {L : List Ob} (h : St w C L W) (i : Nat) {o : Ob} (e : L[i]? = some o) (hC : C < o.b) (k : Nat) (v : Value) : St w C (L.set i ⟨o.b, o.t, o.cs.set k v⟩) (W.setCell ⟨o.b, k, none⟩ v) :=
  ⟨h.fr.set i e k v, CodesOk.setOwn h.codes hC k v, h.le, ne_set h.ne e rfl⟩
theorem St.row {w W : World} {C : Nat} {L : List Ob} (h : St w C L W) (i : Nat) {o : Ob} (e : L[i]? = some o) (hC : C < o.b) (cs : List Value) : St w C (L.set i ⟨o.b, o.t, cs⟩) (W.setRow o.b cs.toArray) :=
  ⟨h.fr.row i e cs, h.codes.below (below_setRow (Below.refl o.b W) (Nat.le_refl _) _) hC, h.le, ne_set h.ne e rfl⟩
/-- the choices begin: behind what was made before -/
theorem St.begin {w W W' : World} {L : List Ob} (h : Fr w L W) (hb : Below W.heap.size W W') (hc : CodesOk W' W.heap.size) : St w W.heap.size L W' :=
  ⟨h.calls hb, hc, h.old.size, fun o ho => by have := (h.obs o ho).lt; omega⟩

/-- within a function that is handed choices: all but those is as it was, and these objects are new -/
structure Dr (w : World) (C : Nat) (L : List Ob) (W : World) : Prop where
  bes : Besides C w W
  codes : CodesOk W C
  lt : C < w.heap.size
  obs : ∀ o ∈ L, o.In W
  new : ∀ o ∈ L, w.heap.size ≤ o.b
  nd : L.Pairwise fun o o' => o.b ≠ o'.b
theorem Dr.start {w : World} {C : Nat} (h : CodesOk w C) : Dr w C [] w := ⟨Besides.refl _ _, h, h.lt, by simp, by simp, .nil⟩
theorem Dr.get {w W : World} {C : Nat} {L : List Ob} (h : Dr w C L W) (i : Nat) {b : Nat} {t : TypeId} {cs : List Value} (e : L[i]? = some ⟨b, t, cs⟩) : W.heap[b]? = some (.cells cs.toArray t (0, 0)) := h.obs _ (List.mem_of_getElem? e)
theorem Dr.at {w W : World} {C : Nat} {L : List Ob} (h : Dr w C L W) (i : Nat) {o : Ob} (e : L[i]? = some o) : o.In W := h.obs _ (List.mem_of_getElem? e)
theorem Dr.draws {w W W' : World} {C : Nat} {L : List Ob} (h : Dr w C L W) (hb : Besides C W W') (hc : CodesOk W' C) : Dr w C L W' :=
  ⟨h.bes.trans hb, hc, h.lt, fun o ho => (h.obs o ho).besides hb (by have := h.new o ho; have := h.lt; omega), h.new, h.nd⟩
theorem Dr.put {w W : World} {C : Nat} {L : List Ob} (h : Dr w C L W) (t : TypeId) (cs : List Value) : Dr w C (L ++ [⟨W.heap.size, t, cs⟩]) (W.alloc (.cells cs.toArray t)) := by
  refine ⟨h.bes.alloc _, h.codes.below ((Below.refl _ _).alloc (Nat.le_refl _) _) h.codes.lt, h.lt, fun o ho => ?_, fun o ho => ?_, ?_⟩
  · rcases List.mem_append.1 ho with ho | ho
    · exact (h.obs o ho).calls ((Below.refl _ _).alloc (Nat.le_refl _) _)
    · obtain rfl := List.mem_singleton.1 ho
      exact heap_alloc_last W _
  · rcases List.mem_append.1 ho with ho | ho
    · exact h.new o ho
    · obtain rfl := List.mem_singleton.1 ho
      exact h.bes.size
  · rw [List.pairwise_append]
    refine ⟨h.nd, List.pairwise_singleton _ _, fun a ha b hb => ?_⟩
    obtain rfl := List.mem_singleton.1 hb
    have := (h.obs a ha).lt
    show a.b ≠ W.heap.size
    omega
theorem Dr.turn {w W W' : World} {C : Nat} {L : List Ob} (h : Dr w C L W) (i : Nat) {o : Ob} (e : L[i]? = some o) (cs : List Value) (hn : Ob.In ⟨o.b, o.t, cs⟩ W') (hb : Below o.b W W') (ho : ∀ k, k ≠ o.b → W'.heap[k]? = W.heap[k]?) : Dr w C (L.set i ⟨o.b, o.t, cs⟩) W' := by
  have hm := List.mem_of_getElem? e
  have hnw := h.new o hm
  have hlt := h.lt
  refine ⟨⟨hb.os.trans h.bes.os, hb.tape.trans h.bes.tape, hb.output.trans h.bes.output, Nat.le_trans h.bes.size hb.size, fun k hk hC => (ho k (by omega)).trans (h.bes.block k hk hC), fun hC => (World.cell?_of_block (a := ⟨C, 0, none⟩) (ho C (by omega))).trans (h.bes.head hC)⟩, h.codes.below hb (by omega), hlt, fun x hx => ?_, fun x hx => ?_, pair_set h.nd e _ rfl⟩
  · rcases other_of h.nd e _ hx with rfl | ⟨hx, hb⟩
    · exact hn
    · exact (ho x.b hb).trans (h.obs x hx)
  · rcases other_of h.nd e _ hx with rfl | ⟨hx, hb⟩
    · exact hnw
    · exact h.new x hx
theorem Dr.set {w W : World} {C : Nat} {L : List Ob} (h : Dr w C L W) (i : Nat) {o : Ob} (e : L[i]? = some o) (k : Nat) (v : Value) : Dr w C (L.set i ⟨o.b, o.t, o.cs.set k v⟩) (W.setCell ⟨o.b, k, none⟩ v) :=
  h.turn i e _ ((h.at i e).set k v) ((Below.refl _ _).setCell (p := ⟨o.b, k, none⟩) (Nat.le_refl _) v) (fun _ hj => Below.heap_setCell _ _ _ _ hj)
theorem Dr.row {w W : World} {C : Nat} {L : List Ob} (h : Dr w C L W) (i : Nat) {o : Ob} (e : L[i]? = some o) (cs : List Value) : Dr w C (L.set i ⟨o.b, o.t, cs⟩) (W.setRow o.b cs.toArray) :=
  h.turn i e _ (setRow_heap _ _ _ _ _ _ (h.at i e)) (below_setRow (Below.refl _ _) (Nat.le_refl _) _) (fun _ hj => setRow_other _ _ _ _ hj)

/-- the operations on whole objects, written out: where another one stands they fail at once -/
theorem wpList_store_ob (t : TypeId) (x : Operand) {y : Operand} {ops : Array Oper} {rest : List Oper} {a : Act} {w : World} {Q : Exit → Act → World → Prop} {ty : TypeId} {pos : String} {aft : Array Edge}
    (b : Nat) (cs zs : List Value) (t0 : TypeId) (hx : a.eval x = .pointer (some ⟨b, 0, none⟩)) (hy : a.eval y = .agg cs.toArray) (hg : w.heap[b]? = some (.cells zs.toArray t0 (0, 0)))
    (hi : (Tryd.prog.info? t).map (·.size) = some cs.length) (hl : zs.length = cs.length) (h1 : cs.toArray.all (·.oneCell') = true)
    (h : wpList Tryd.prog ops Q rest a (w.setRow b cs.toArray)) :
    wpList Tryd.prog ops Q ({ dst := none, op := .store t x y, type := ty, pos := pos, after := aft, guard := none } :: rest) a w :=
  wpList_store_row rfl t x y rfl b cs.toArray hx hy t0 zs.toArray hg (by rw [List.size_toArray]; exact hi) (by rw [List.size_toArray, List.size_toArray]; exact hl) h1 h
theorem wpList_load_ob (t : TypeId) (x : Operand) {ops : Array Oper} {rest : List Oper} {a : Act} {w : World} {Q : Exit → Act → World → Prop} {d : Option Tmp} {ty : TypeId} {pos : String} {aft : Array Edge}
    (b : Nat) (cs : List Value) (t0 : TypeId) {ds : TypeDesc} (hu : Tryd.prog.underlying t = some ds) (hx : a.eval x = .pointer (some ⟨b, 0, none⟩)) (hg : w.heap[b]? = some (.cells cs.toArray t0 (0, 0)))
    (hd : ds.isRow = true) (hi : (Tryd.prog.info? t).map (·.size) = some cs.length)
    (h : wpList Tryd.prog ops Q rest (a.put d (.agg cs.toArray)) w) :
    wpList Tryd.prog ops Q ({ dst := d, op := .load t x, type := ty, pos := pos, after := aft, guard := none } :: rest) a w :=
  wpList_load_row rfl t x rfl b hx t0 cs.toArray (0, 0) ds hg hu (by cases ds <;> simp_all) (by rw [List.size_toArray]; exact hi) h
theorem wpList_load_row_g {ops : Array Oper} {rest : List Oper} {o : Oper} {a : Act} {w : World} {Q : Exit → Act → World → Prop} (hw : Region.wanted o (yielded ops a.tmps) = true) (ty : TypeId) (x : Operand) (ho : o.op = .load ty x)
    (g : Nat) (hx : a.eval x = .pointer (some ⟨g, 0, none⟩)) (t : TypeId) (cs : Array Value) (fr : Nat × Nat) (d : TypeDesc) (hg : w.heap[g]? = some (.cells cs t fr))
    (hu : Tryd.prog.underlying ty = some d) (hd : d.isRow = true) (hi : (Tryd.prog.info? ty).map (·.size) = some cs.size)
    (h : wpList Tryd.prog ops Q rest (a.put o.dst (.agg cs)) w) : wpList Tryd.prog ops Q (o :: rest) a w :=
  wpList_step fun K hK => by
    rw [if_pos hw]
    exact wp_load_row ty x ho g hx t cs fr d hg hu (by cases d <;> simp_all) hi (hK _ _ h)
theorem wpList_load_ob_w (t : TypeId) (x : Operand) {ops : Array Oper} {rest : List Oper} {a : Act} {w : World} {Q : Exit → Act → World → Prop} {d : Option Tmp} {ty : TypeId} {pos : String} {aft : Array Edge} {gd : Nat × Bool}
    (b : Nat) (cs : List Value) (t0 : TypeId) {ds : TypeDesc} (hu : Tryd.prog.underlying t = some ds) (hw : Region.wanted { dst := d, op := .load t x, type := ty, pos := pos, after := aft, guard := some gd } (yielded ops a.tmps) = true) (hx : a.eval x = .pointer (some ⟨b, 0, none⟩)) (hg : w.heap[b]? = some (.cells cs.toArray t0 (0, 0)))
    (hd : ds.isRow = true) (hi : (Tryd.prog.info? t).map (·.size) = some cs.length)
    (h : wpList Tryd.prog ops Q rest (a.put d (.agg cs.toArray)) w) :
    wpList Tryd.prog ops Q ({ dst := d, op := .load t x, type := ty, pos := pos, after := aft, guard := some gd } :: rest) a w :=
  wpList_load_row_g hw t x rfl b hx t0 cs.toArray (0, 0) ds hg hu hd (by rw [List.size_toArray]; exact hi) h
theorem wpList_load_at (t : TypeId) (x : Operand) {ops : Array Oper} {rest : List Oper} {a : Act} {w : World} {Q : Exit → Act → World → Prop} {d : Option Tmp} {ty : TypeId} {pos : String} {aft : Array Edge}
    (b o : Nat) (cs : List Value) {ds : TypeDesc} (hu : Tryd.prog.underlying t = some ds) (hx : a.eval x = .pointer (some ⟨b, o, none⟩)) (hg : w.rangeAt b o cs)
    (hd : ds.isRow = true) (hi : (Tryd.prog.info? t).map (·.size) = some cs.length)
    (h : wpList Tryd.prog ops Q rest (a.put d (.agg cs.toArray)) w) :
    wpList Tryd.prog ops Q ({ dst := d, op := .load t x, type := ty, pos := pos, after := aft, guard := none } :: rest) a w :=
  wpList_load_mid rfl t x rfl b o hx cs ds hg hu hd hi h
/-- an object and a word, as the results -/
theorem results_ob_tmp {fn : Func} {p u : Tmp} {t : TypeId} (h : fn.results = #[.cell p t, .tmp u]) (tmps : Array Value) (w : World) (g : Nat) (cs : List Value) (t0 : TypeId) (ds : TypeDesc)
    (hp : tmps.getD p undef = .pointer (some ⟨g, 0, none⟩)) (hg : w.heap[g]? = some (.cells cs.toArray t0 (0, 0))) (hu : Tryd.prog.underlying t = some ds) (hd : ds.isRow = true) (hi : (Tryd.prog.info? t).map (·.size) = some cs.length) :
    (results fn tmps).run Tryd.prog w = .ok (.tuple #[.agg cs.toArray, tmps.getD u undef]) w := by
  rw [results_cell_tmp h, hp]
  simp [asAddr, run_loadVar_row w g t0 t cs.toArray (0, 0) ds hg hu (by cases ds <;> simp_all) (by rw [List.size_toArray]; exact hi), Result.andThen]
theorem results_ob {fn : Func} {p : Tmp} {t : TypeId} (h : fn.results = #[.cell p t]) (tmps : Array Value) (w : World) (g : Nat) (cs : List Value) (t0 : TypeId) (ds : TypeDesc)
    (hp : tmps.getD p undef = .pointer (some ⟨g, 0, none⟩)) (hg : w.heap[g]? = some (.cells cs.toArray t0 (0, 0))) (hu : Tryd.prog.underlying t = some ds) (hd : ds.isRow = true) (hi : (Tryd.prog.info? t).map (·.size) = some cs.length) :
    (results fn tmps).run Tryd.prog w = .ok (.agg cs.toArray) w :=
  results_cell_row h tmps w g t0 cs.toArray (0, 0) ds hp hg hu (by cases ds <;> simp_all) (by rw [List.size_toArray]; exact hi)
/-- an object is made -/
theorem wp_alloc_ob {o : Oper} {a : Act} {w : World} {K : Act → World → Prop} {Q : Exit → Act → World → Prop} (t : TypeId) (cs : List Value) (ho : o.op = .alloc t)
    (hr : ∀ W, Sem.run Tryd.prog (Instr.alloc t true (.tuple #[])) W = .ok (.pointer (some ⟨W.heap.size, 0, none⟩)) (W.alloc (.cells cs.toArray t)))
    (h : K (a.put o.dst (.pointer (some ⟨w.heap.size, 0, none⟩))) (w.alloc (.cells cs.toArray t))) : o.wp Tryd.prog a w K Q := by
  unfold Oper.wp execOp
  simp only [ho, Sem.run_bind, hr w, Result.andThen_ok, Sem.run_pure]
  exact h
theorem wpList_alloc_ob (t : TypeId) (cs : List Value) {ops : Array Oper} {rest : List Oper} {a : Act} {w : World} {Q : Exit → Act → World → Prop} {d : Option Tmp} {ty : TypeId} {pos : String} {aft : Array Edge}
    (hr : ∀ W, Sem.run Tryd.prog (Instr.alloc t true (.tuple #[])) W = .ok (.pointer (some ⟨W.heap.size, 0, none⟩)) (W.alloc (.cells cs.toArray t)))
    (h : wpList Tryd.prog ops Q rest (a.put d (.pointer (some ⟨w.heap.size, 0, none⟩))) (w.alloc (.cells cs.toArray t))) :
    wpList Tryd.prog ops Q ({ dst := d, op := .alloc t, type := ty, pos := pos, after := aft, guard := none } :: rest) a w :=
  wpList_plain rfl fun _ hK => by
    unfold Oper.wp execOp
    have := hr w
    simp only [Sem.run_bind, this, Result.andThen_ok, Sem.run_pure]
    exact hK _ _ h
theorem wp_store_ob {o : Oper} {a : Act} {w : World} {K : Act → World → Prop} {Q : Exit → Act → World → Prop} (t : TypeId) (x y : Operand) (b : Nat) (cs zs : List Value) (t0 : TypeId) (ho : o.op = .store t x y) (hd : o.dst = none) (hx : a.eval x = .pointer (some ⟨b, 0, none⟩)) (hy : a.eval y = .agg cs.toArray) (hg : w.heap[b]? = some (.cells zs.toArray t0 (0, 0)))
    (hi : (Tryd.prog.info? t).map (·.size) = some cs.length) (hl : zs.length = cs.length) (h1 : cs.toArray.all (·.oneCell') = true)
    (h : K a (w.setRow b cs.toArray)) : o.wp Tryd.prog a w K Q :=
  wp_store_row t x y ho b cs.toArray hx hy t0 zs.toArray hg (by rw [List.size_toArray]; exact hi) (by rw [List.size_toArray, List.size_toArray]; exact hl) h1 (by rw [hd]; exact h)
/-- these objects lie there -/
def Obs (L : List Ob) (W : World) : Prop := ∀ o ∈ L, o.In W
theorem Obs.whole {L : List Ob} {W : World} (h : Obs L W) (i : Nat) {b : Nat} {t : TypeId} {cs : List Value} (e : L[i]? = some ⟨b, t, cs⟩) : W.rangeAt b 0 cs := (h _ (List.mem_of_getElem? e)).whole
theorem Obs.get {L : List Ob} {W : World} (h : Obs L W) (i : Nat) {b : Nat} {t : TypeId} {cs : List Value} (e : L[i]? = some ⟨b, t, cs⟩) : W.heap[b]? = some (.cells cs.toArray t (0, 0)) := h _ (List.mem_of_getElem? e)
theorem Obs.at {L : List Ob} {W : World} (h : Obs L W) (i k : Nat) {b : Nat} {t : TypeId} {cs : List Value} {v : Value} (e : L[i]? = some ⟨b, t, cs⟩) (hv : cs[k]? = some v) : W.cell? ⟨b, k, none⟩ = some v := (h _ (List.mem_of_getElem? e)).at k hv
theorem Obs.init {L M : List Ob} {W : World} (h : Obs (L ++ M) W) : Obs L W := fun o ho => h o (List.mem_append_left _ ho)
theorem Fr.all {w W : World} {L : List Ob} (h : Fr w L W) : Obs L W := h.obs
theorem St.all {w W : World} {C : Nat} {L : List Ob} (h : St w C L W) : Obs L W := h.fr.obs
/-- a value is built -/
theorem wpList_build_v (t : TypeId) {ps : Array (Nat × Operand)} {ops : Array Oper} {rest : List Oper} {a : Act} {w : World} {Q : Exit → Act → World → Prop} {d : Option Tmp} {ty : TypeId} {pos : String} {aft : Array Edge}
    (v : Value) (hb : ∀ W, Sem.run Tryd.prog (Instr.build t (ps.map fun x => (x.1, a.eval x.2))) W = .ok v W)
    (h : wpList Tryd.prog ops Q rest (a.put d v) w) :
    wpList Tryd.prog ops Q ({ dst := d, op := .build t ps, type := ty, pos := pos, after := aft, guard := none } :: rest) a w :=
  wpList_plain rfl fun K hK => by
    unfold Oper.wp execOp
    have := hb w
    simp only [Sem.run_bind, this, Result.andThen_ok, Sem.run_pure]
    exact hK _ _ h
theorem wpList_load_at_w (t : TypeId) (x : Operand) {ops : Array Oper} {rest : List Oper} {a : Act} {w : World} {Q : Exit → Act → World → Prop} {d : Option Tmp} {ty : TypeId} {pos : String} {aft : Array Edge} {gd : Nat × Bool}
    (b o : Nat) (cs : List Value) {ds : TypeDesc} (hu : Tryd.prog.underlying t = some ds) (hw : Region.wanted { dst := d, op := .load t x, type := ty, pos := pos, after := aft, guard := some gd } (yielded ops a.tmps) = true) (hx : a.eval x = .pointer (some ⟨b, o, none⟩)) (hg : w.rangeAt b o cs)
    (hd : ds.isRow = true) (hi : (Tryd.prog.info? t).map (·.size) = some cs.length)
    (h : wpList Tryd.prog ops Q rest (a.put d (.agg cs.toArray)) w) :
    wpList Tryd.prog ops Q ({ dst := d, op := .load t x, type := ty, pos := pos, after := aft, guard := some gd } :: rest) a w :=
  wpList_step fun K hK => by
    rw [if_pos hw]
    exact wp_load_mid t x rfl b o hx cs ds hg hu hd hi (hK _ _ h)
/-- two values of one type are compared by their words -/
noncomputable def sameV {α : Type} (a b : α) : Bool := @decide (a = b) (Classical.propDecidable _)
theorem sameV_iff {α : Type} {a b : α} : sameV a b = true ↔ a = b := by unfold sameV; exact @decide_eq_true_iff (a = b) (Classical.propDecidable _)
theorem sameV_self {α : Type} (a : α) : sameV a a = true := sameV_iff.2 rfl
theorem sameV_comm {α : Type} (a b : α) : sameV a b = sameV b a := by rw [Bool.eq_iff_iff, sameV_iff, sameV_iff]; exact eq_comm
theorem equal_lits {α : Type} (t : TypeId) (a b : α) (x y : List Value) (la lb : List Lit) (hd : Tryd.prog.keyTypeAt 4 t = true) (fx : (Value.agg x.toArray).formed Tryd.prog t = true) (fy : (Value.agg y.toArray).formed Tryd.prog t = true) (lx : Tryd.prog.keyLits 4 t x = some la) (ly : Tryd.prog.keyLits 4 t y = some lb) (hi : la = lb ↔ a = b) (w : World) :
    Sem.run Tryd.prog (Op.equal t (.agg x.toArray) (.agg y.toArray)) w = .ok (sameV a b) w := by
  obtain ⟨r, hr, hiff⟩ := run_equalIn_deep (P := Tryd.prog) 9996 4 t hd w 4 4 (.agg x.toArray) (.agg y.toArray) la lb fx fy lx ly
  have e : sameV a b = r := by rw [Bool.eq_iff_iff, hiff, sameV_iff]; exact hi.symm
  rw [e]
  exact hr
theorem run_eql {α : Type} {t : TypeId} {a b : α} {x y : List Value} (h : ∀ w, Sem.run Tryd.prog (Op.equal t (.agg x.toArray) (.agg y.toArray)) w = .ok (sameV a b) w) (w : World) :
    Sem.run Tryd.prog (binOp .eql t (.agg x.toArray) (.agg y.toArray)) w = .ok (.bool (sameV a b)) w := by
  simp only [binOp, Sem.run_bind, h, Result.andThen_ok, Sem.run_pure]
theorem run_neq {α : Type} {t : TypeId} {a b : α} {x y : List Value} (h : ∀ w, Sem.run Tryd.prog (Op.equal t (.agg x.toArray) (.agg y.toArray)) w = .ok (sameV a b) w) (w : World) :
    Sem.run Tryd.prog (binOp .neq t (.agg x.toArray) (.agg y.toArray)) w = .ok (.bool (!sameV a b)) w := by
  simp only [binOp, Sem.run_bind, h, Result.andThen_ok, Sem.run_pure]
end Go.Proofs.YtpmfdpkcnldpiaaDoor
/- cells as values -/
namespace Go.Proofs.YtpmfdpkcnldpiaaDoor
open Go.RowKit

structure Cl where
  set : Bool
  data : ByteArray
def clCells (c : Cl) : List Value := [.bool c.set, .string c.data]
def clV (c : Cl) : Value := .agg (clCells c).toArray
def rowCells (l : List Cl) : List Value := l.flatMap clCells
theorem rowCells_get : ∀ (l : List Cl) (k : Nat) (h : k < l.length), (rowCells l)[2 * k]? = some (.bool l[k].set) ∧ (rowCells l)[2 * k + 1]? = some (.string l[k].data)
  | [], k, h => by simp at h
  | c :: l, 0, _ => ⟨rfl, rfl⟩
  | c :: l, k + 1, h => by
    have := rowCells_get l k (by simpa using h)
    exact this
theorem rowCells_length (l : List Cl) : (rowCells l).length = 2 * l.length := by
  induction l with
  | nil => rfl
  | cons c l ih => show (clCells c ++ rowCells l).length = _; rw [List.length_append, ih, List.length_cons]; simp only [clCells, List.length_cons, List.length_nil]; omega
def cellOkB (c : Cl) : Bool := decide (c.data.size ≤ 12) && (c.set || decide (c.data.size = 0))
def emptyCl : Cl := ⟨false, ⟨#[]⟩⟩
end Go.Proofs.YtpmfdpkcnldpiaaDoor
/- whether two cells are equal, as the program compares them -/
namespace Go.Proofs.YtpmfdpkcnldpiaaDoor
open Go.RowKit

def clLits (c : Cl) : List Lit := [.bool c.set, .string c.data.data.toList]
theorem clLits_inj : ∀ (a b : List Cl), a.flatMap clLits = b.flatMap clLits → a = b
  | [], [], _ => rfl
  | [], y :: ys, h => by simp [clLits] at h
  | x :: xs, [], h => by simp [clLits] at h
  | x :: xs, y :: ys, h => by
    simp only [List.flatMap_cons, clLits, List.cons_append, List.nil_append, List.cons.injEq, Lit.bool.injEq, Lit.string.injEq] at h
    obtain ⟨h1, h2, h3⟩ := h
    obtain ⟨s, d⟩ := x
    obtain ⟨s', d'⟩ := y
    simp only at h1 h2
    rw [h1, str_eq h2, clLits_inj xs ys h3]
theorem mapM_some {α β : Type} (f : α → Option β) (g : α → β) : ∀ (l : List α), (∀ a ∈ l, f a = some (g a)) → l.mapM f = some (l.map g)
  | [], _ => rfl
  | a :: l, h => by
    rw [List.mapM_cons, h a (List.mem_cons_self ..), mapM_some f g l (fun x hx => h x (List.mem_cons_of_mem _ hx))]
    rfl
theorem cellsOf_cell : Tryd.prog.cellsOf 27 = 2 := by kernel_rfl
theorem cellsOf_int : Tryd.prog.cellsOf 3 = 1 := by kernel_rfl
theorem cellsOf_bool : Tryd.prog.cellsOf 4 = 1 := by kernel_rfl
theorem cellsOf_string : Tryd.prog.cellsOf 9 = 1 := by kernel_rfl
theorem lits_int (d : Nat) (n : Int) (h : (Lit.int .i64 n).wf = true) : Tryd.prog.keyLits (d + 1) 3 [.int .i64 n] = some [.int .i64 n] := by
  simp [Program.keyLits, Tryd.underlying3, h]
theorem lits_bool (d : Nat) (b : Bool) : Tryd.prog.keyLits (d + 1) 4 [.bool b] = some [.bool b] := by
  simp [Program.keyLits, Tryd.underlying4]
theorem lits_string (d : Nat) (s : ByteArray) (h : s.size ≤ maxLen) : Tryd.prog.keyLits (d + 1) 9 [.string s] = some [.string s.data.toList] := by
  simp [Program.keyLits, Tryd.underlying9, h]
theorem lits_cell (d : Nat) (c : Cl) (h : c.data.size ≤ maxLen) : Tryd.prog.keyLits (d + 2) 27 (clCells c) = some (clLits c) := by
  unfold clCells
  rw [show d + 2 = (d + 1) + 1 from rfl]
  unfold Program.keyLits
  rw [Tryd.underlying27]
  simp only
  rw [if_pos ⟨by rw [cellsOf_cell]; rfl, by kernel_rfl⟩]
  have h1 : Tryd.prog.keyLits (d + 1) 4 [.bool c.set] = some [.bool c.set] := lits_bool d c.set
  have h2 := lits_string d c.data h
  simp only [List.mapM_cons, List.mapM_nil, cellsOf_bool, cellsOf_string, List.drop_zero, List.take_succ_cons, List.take_zero, List.drop_succ_cons, h1, h2]
  rfl
end Go.Proofs.YtpmfdpkcnldpiaaDoor
/- the choices of the drawing package: Data -/
namespace Go.Proofs.YtpmfdpkcnldpiaaDoor
open Go.RowKit
set_option maxRecDepth 20000

/-- what Data leaves: some short text -/
def DataPost (C : Nat) (w : World) (e : Ending) (w' : World) : Prop :=
  ∃ s : ByteArray, e = .returned (.string s) ∧ s.size ≤ 13 ∧ Besides C w w' ∧ CodesOk w' C
/-- a row of bytes of the call's own is read as a text -/
theorem conv_own (W : World) (base : Nat) (v : Value) (l : List UInt8) (h : W.ownsRow base 5 1 v l.length (l.map (fun b => Value.int .u8 (b.toNat : Int)))) (hv : v ≠ .slice none 0 0) :
    Sem.run Tryd.prog (convert 57 9 v) W = .ok (.string ⟨l.toArray⟩) W := by
  rcases h.2 with ⟨h1, _⟩ | ⟨g, cap, cur, rfl, _, hg, _⟩
  · exact absurd h1 hv
  · refine run_convert_bytes_back (P := Tryd.prog) W 57 9 5 ⟨g, 0, none⟩ cap l Tryd.underlying57 Tryd.underlying5 Tryd.underlying9 (fun j hj => ?_)
    exact h.cells rfl j _ (by rw [List.getElem?_map, List.getElem?_eq_getElem hj]; rfl)

theorem Besides.of_grown {C : Nat} {w w' : World} (h : w.grownBy w' none) : Besides C w w' := ⟨h.os, h.tape, h.output, h.size, fun k hk _ => h.block k hk (by simp), fun hC => World.cell?_of_block (a := ⟨C, 0, none⟩) (h.block C hC (by simp))⟩
theorem Below.of_grown {w w' : World} (h : w.grownBy w' none) : Below w.heap.size w w' := ⟨h.os, h.tape, h.output, h.size, fun k hk => h.block k hk (by simp)⟩

theorem Besides.grown {C : Nat} {a w w' : World} {row : Option Nat} (h : Besides C a w) (hg : w.grownBy w' row) (hr : ∀ k, row = some k → a.heap.size ≤ k) : Besides C a w' :=
  ⟨hg.os.trans h.os, hg.tape.trans h.tape, hg.output.trans h.output, Nat.le_trans h.size hg.size, fun k hk hC => (hg.block k (Nat.lt_of_lt_of_le hk h.size) (fun e => by have := hr k e.symm; omega)).trans (h.block k hk hC),
    fun hC => (World.cell?_of_block (a := ⟨C, 0, none⟩) (hg.block C (Nat.lt_of_lt_of_le hC h.size) (fun e => by have := hr C e.symm; omega))).trans (h.head hC)⟩
theorem own_lt {B : Nat} {W : World} {e : TypeId} {z n : Nat} {v : Value} {xs : List Value} (h : W.ownsRow B e z v n xs) (hv : v ≠ .slice none 0 0) : B < W.heap.size := by
  rcases h.2 with ⟨h1, _⟩ | ⟨g, cap, cur, rfl, hB, hg, _⟩
  · exact absurd h1 hv
  · have := (Array.getElem?_eq_some_iff.1 hg).1; omega
theorem own_besides {B C : Nat} {W W' : World} {e : TypeId} {z n : Nat} {v : Value} {xs : List Value} (h : W.ownsRow B e z v n xs) (hb : Besides C W W') (hC : C < B) : W'.ownsRow B e z v n xs :=
  h.kept (row := some C) ⟨hb.os, hb.tape, hb.output, hb.size, fun k hk hne => hb.block k hk (by intro e; exact hne (by rw [e]))⟩ (by
    cases hv : v.ownBlock with
    | none => exact .inl rfl
    | some k => right; intro e; injection e with e; have := (h.lt k hv).1; omega)

end Go.Proofs.YtpmfdpkcnldpiaaDoor
/- the choices of the drawing package: Cell -/
namespace Go.Proofs.YtpmfdpkcnldpiaaDoor
open Go.RowKit

/-- what Cell leaves: some valid cell -/
def CellPost (C : Nat) (w : World) (e : Ending) (w' : World) : Prop :=
  ∃ c : Cl, e = .returned (clV c) ∧ cellOkB c = true ∧ Besides C w w' ∧ CodesOk w' C
theorem info_cell : (Tryd.prog.info? 27).map (·.size) = some 2 := by kernel_rfl
theorem oneCell_cell (b : Bool) (s : ByteArray) : (#[Value.bool b, Value.string s]).all (·.oneCell') = true := by kernel_rfl
theorem under_cell : ∃ fs, Tryd.prog.underlying 27 = some (.struct fs) := ⟨_, Tryd.underlying27⟩
end Go.Proofs.YtpmfdpkcnldpiaaDoor
/- changes as values -/
namespace Go.Proofs.YtpmfdpkcnldpiaaDoor
open Go.RowKit

structure Chg where
  page : Int
  slot : Int
  before : Cl
  after : Cl
def chCells (c : Chg) : List Value := [.int .i64 c.page, .int .i64 c.slot, .bool c.before.set, .string c.before.data, .bool c.after.set, .string c.after.data]
/-- a change that a value of the program can be -/
structure GoodCh (c : Chg) : Prop where
  page : (Lit.int .i64 c.page).wf = true
  slot : (Lit.int .i64 c.slot).wf = true
  before : c.before.data.size ≤ maxLen
  after : c.after.data.size ≤ maxLen
def chOkB (c : Chg) : Bool := decide (0 ≤ c.page) && (decide (c.page < 64) && (decide (0 ≤ c.slot) && (decide (c.slot < 16) && (cellOkB c.before && cellOkB c.after))))
def chNil : Chg := ⟨0, 0, emptyCl, emptyCl⟩
def invR (c : Chg) : Chg := ⟨c.page, c.slot, c.after, c.before⟩
noncomputable def joinR (a b : Chg) : Chg × Int :=
  if (chOkB a && chOkB b) = false then (chNil, 22) else if sameV (a.page, a.slot) (b.page, b.slot) = false then (chNil, 6) else if sameV b.before a.after = false then (chNil, 20) else (⟨a.page, a.slot, a.before, b.after⟩, 0)
theorem cells_length (c : Chg) : (chCells c).length = 6 := rfl
theorem oneCell_ch (c : Chg) : ((chCells c).toArray).all (·.oneCell') = true := by kernel_rfl
theorem oneCell_cl (c : Cl) : ((clCells c).toArray).all (·.oneCell') = true := by kernel_rfl
theorem info_ch : (Tryd.prog.info? 29).map (·.size) = some 6 := by kernel_rfl
theorem under_ch : ∃ fs, Tryd.prog.underlying 29 = some (.struct fs) := ⟨_, Tryd.underlying29⟩
theorem cellOk_small {c : Cl} (h : cellOkB c = true) : c.data.size ≤ 12 := by unfold cellOkB at h; simp at h; exact h.1
theorem small_le {n : Nat} (h : n ≤ 13) : n ≤ maxLen := by unfold maxLen; omega
theorem wf_of {n : Int} (h0 : -9223372036854775808 ≤ n) (h1 : n ≤ 9223372036854775807) : (Lit.int .i64 n).wf = true := by
  simp [Lit.wf, IntKind.min, IntKind.max, IntKind.bits, IntKind.signed]; omega
theorem wf_bd {n : Int} (h : (Lit.int .i64 n).wf = true) : -9223372036854775808 ≤ n ∧ n ≤ 9223372036854775807 := by
  simpa [Lit.wf, IntKind.min, IntKind.max, IntKind.bits, IntKind.signed] using h
theorem chOk_parts {c : Chg} (h : chOkB c = true) : 0 ≤ c.page ∧ c.page < 64 ∧ 0 ≤ c.slot ∧ c.slot < 16 ∧ cellOkB c.before = true ∧ cellOkB c.after = true := by
  unfold chOkB at h
  simp at h
  exact h
theorem chOk_of {c : Chg} (h0 : 0 ≤ c.page) (h1 : c.page < 64) (h2 : 0 ≤ c.slot) (h3 : c.slot < 16) (h4 : cellOkB c.before = true) (h5 : cellOkB c.after = true) : chOkB c = true := by
  unfold chOkB
  simp [h0, h1, h2, h3, h4, h5]
theorem chOk_good {c : Chg} (h : chOkB c = true) : GoodCh c := by
  obtain ⟨h0, h1, h2, h3, h4, h5⟩ := chOk_parts h
  exact ⟨wf_of (by omega) (by omega), wf_of (by omega) (by omega), small_le (by have := cellOk_small h4; omega), small_le (by have := cellOk_small h5; omega)⟩
theorem inv_ok (c : Chg) : chOkB (invR c) = chOkB c := by
  unfold chOkB invR
  cases cellOkB c.before <;> cases cellOkB c.after <;> simp
theorem inv_good {c : Chg} (h : GoodCh c) : GoodCh (invR c) := ⟨h.page, h.slot, h.after, h.before⟩
theorem alloc_ch (w : World) : Sem.run Tryd.prog (Instr.alloc 29 true (.tuple #[])) w = .ok (.pointer (some ⟨w.heap.size, 0, none⟩)) (w.alloc (.cells (chCells chNil).toArray 29)) := by kernel_rfl
theorem alloc_cl (w : World) : Sem.run Tryd.prog (Instr.alloc 27 true (.tuple #[])) w = .ok (.pointer (some ⟨w.heap.size, 0, none⟩)) (w.alloc (.cells (clCells emptyCl).toArray 27)) := by kernel_rfl
theorem info_cl : (Tryd.prog.info? 27).map (·.size) = some 2 := by kernel_rfl
theorem all_one {cs : List Value} (h : cs.toArray.all (·.oneCell') = true) : ∀ u ∈ cs, u.oneCell' = true := by
  rw [List.all_toArray, List.all_eq_true] at h
  exact h
def chLits (c : Chg) : List Lit := [.int .i64 c.page, .int .i64 c.slot, .bool c.before.set, .string c.before.data.data.toList, .bool c.after.set, .string c.after.data.data.toList]
theorem clLits_iff (a b : Cl) : clLits a = clLits b ↔ a = b := by
  constructor
  · intro h
    simp only [clLits, List.cons.injEq, Lit.bool.injEq, Lit.string.injEq, and_true] at h
    obtain ⟨s, d⟩ := a
    obtain ⟨s', d'⟩ := b
    simp only at h
    rw [h.1, str_eq h.2]
  · rintro rfl; rfl
theorem chLits_iff (a b : Chg) : chLits a = chLits b ↔ a = b := by
  constructor
  · intro h
    simp only [chLits, List.cons.injEq, Lit.bool.injEq, Lit.string.injEq, Lit.int.injEq, true_and, and_true] at h
    obtain ⟨h1, h2, h3, h4, h5, h6⟩ := h
    obtain ⟨p, s, ⟨b1, b2⟩, ⟨a1, a2⟩⟩ := a
    obtain ⟨p', s', ⟨b1', b2'⟩, ⟨a1', a2'⟩⟩ := b
    simp only at h1 h2 h3 h4 h5 h6
    rw [h1, h2, h3, str_eq h4, h5, str_eq h6]
  · rintro rfl; rfl
theorem cellsOf_ch : Tryd.prog.cellsOf 29 = 6 := by kernel_rfl
theorem lits_ch (d : Nat) (c : Chg) (h : GoodCh c) : Tryd.prog.keyLits (d + 3) 29 (chCells c) = some (chLits c) := by
  rw [show d + 3 = (d + 2) + 1 from rfl]
  unfold Program.keyLits
  rw [Tryd.underlying29]
  simp only
  rw [if_pos ⟨by rw [cellsOf_ch]; rfl, by kernel_rfl⟩]
  have h1 := lits_int (d + 1) c.page h.page
  have h2 := lits_int (d + 1) c.slot h.slot
  have h3 := lits_cell d c.before h.before
  have h4 := lits_cell d c.after h.after
  simp only [clCells] at h3 h4
  unfold chCells
  simp only [List.mapM_cons, List.mapM_nil, cellsOf_int, cellsOf_cell, List.drop_zero, List.take_succ_cons, List.take_zero, List.drop_succ_cons, h1, h2, h3, h4]
  simp [chLits, clLits, List.flatten, pure, bind]
theorem ch_formed (c : Chg) : (Value.agg (chCells c).toArray).formed Tryd.prog 29 = true := by
  unfold Value.formed
  rw [Tryd.underlying29]
  simp only
  rw [List.size_toArray, cells_length, cellsOf_ch]
  rfl
theorem cl_formed (c : Cl) : (Value.agg (clCells c).toArray).formed Tryd.prog 27 = true := by
  unfold Value.formed
  rw [Tryd.underlying27]
  simp only
  rw [List.size_toArray, cellsOf_cell]
  rfl
theorem equal_ch (a b : Chg) (ha : GoodCh a) (hb : GoodCh b) (w : World) : Sem.run Tryd.prog (Op.equal 29 (.agg (chCells a).toArray) (.agg (chCells b).toArray)) w = .ok (sameV a b) w :=
  equal_lits 29 a b _ _ _ _ (by kernel_rfl) (ch_formed a) (ch_formed b) (lits_ch 1 a ha) (lits_ch 1 b hb) (chLits_iff a b) w
theorem equal_cl (a b : Cl) (ha : a.data.size ≤ maxLen) (hb : b.data.size ≤ maxLen) (w : World) : Sem.run Tryd.prog (Op.equal 27 (.agg (clCells a).toArray) (.agg (clCells b).toArray)) w = .ok (sameV a b) w :=
  equal_lits 27 a b _ _ _ _ (by kernel_rfl) (cl_formed a) (cl_formed b) (lits_cell 2 a ha) (lits_cell 2 b hb) (clLits_iff a b) w
theorem nil_good : GoodCh chNil := ⟨by decide, by decide, by decide, by decide⟩
theorem join_good {a b : Chg} (ha : GoodCh a) (hb : GoodCh b) : GoodCh (joinR a b).1 := by
  unfold joinR
  split
  · exact nil_good
  · split
    · exact nil_good
    · split
      · exact nil_good
      · exact ⟨ha.page, ha.slot, ha.before, hb.after⟩
end Go.Proofs.YtpmfdpkcnldpiaaDoor
/- entries as values, which of them are valid, and how they are compared -/
namespace Go.Proofs.YtpmfdpkcnldpiaaDoor
open Go.RowKit
set_option maxRecDepth 20000

structure Ent where
  lsn : Int
  kind : Int
  tx : Int
  ptx : Int
  ppg : Int
  ref : Int
  ch : Chg
  blob : ByteArray
def enCells (e : Ent) : List Value := [.int .i64 e.lsn, .int .i64 e.kind, .int .i64 e.tx, .int .i64 e.ptx, .int .i64 e.ppg, .int .i64 e.ref, .int .i64 e.ch.page, .int .i64 e.ch.slot, .bool e.ch.before.set, .string e.ch.before.data, .bool e.ch.after.set, .string e.ch.after.data, .string e.blob]
/-- an entry that a value of the program can be -/
structure GoodEn (e : Ent) : Prop where
  lsn : (Lit.int .i64 e.lsn).wf = true
  kind : (Lit.int .i64 e.kind).wf = true
  tx : (Lit.int .i64 e.tx).wf = true
  ptx : (Lit.int .i64 e.ptx).wf = true
  ppg : (Lit.int .i64 e.ppg).wf = true
  ref : (Lit.int .i64 e.ref).wf = true
  ch : GoodCh e.ch
  blob : e.blob.size ≤ maxLen
def emptyS : ByteArray := ⟨#[]⟩
def enNil : Ent := ⟨0, 0, 0, 0, 0, 0, chNil, emptyS⟩
theorem enCells_length (e : Ent) : (enCells e).length = 13 := rfl
theorem oneCell_en (e : Ent) : ((enCells e).toArray).all (·.oneCell') = true := by kernel_rfl
theorem info_en : (Tryd.prog.info? 31).map (·.size) = some 13 := by kernel_rfl
theorem under_en : ∃ fs, Tryd.prog.underlying 31 = some (.struct fs) := ⟨_, Tryd.underlying31⟩
theorem alloc_en (w : World) : Sem.run Tryd.prog (Instr.alloc 31 true (.tuple #[])) w = .ok (.pointer (some ⟨w.heap.size, 0, none⟩)) (w.alloc (.cells (enCells enNil).toArray 31)) := by kernel_rfl
theorem enNil_good : GoodEn enNil := ⟨by decide, by decide, by decide, by decide, by decide, by decide, nil_good, by decide⟩
/-! equality -/
def enLits (e : Ent) : List Lit := [.int .i64 e.lsn, .int .i64 e.kind, .int .i64 e.tx, .int .i64 e.ptx, .int .i64 e.ppg, .int .i64 e.ref, .int .i64 e.ch.page, .int .i64 e.ch.slot, .bool e.ch.before.set, .string e.ch.before.data.data.toList, .bool e.ch.after.set, .string e.ch.after.data.data.toList, .string e.blob.data.toList]
theorem enLits_iff (a b : Ent) : enLits a = enLits b ↔ a = b := by
  constructor
  · intro h
    simp only [enLits, List.cons.injEq, Lit.bool.injEq, Lit.string.injEq, Lit.int.injEq, true_and, and_true] at h
    obtain ⟨h1, h2, h3, h4, h5, h6, h7, h8, h9, h10, h11, h12, h13⟩ := h
    obtain ⟨a1, a2, a3, a4, a5, a6, ⟨a7, a8, ⟨a9, a10⟩, ⟨a11, a12⟩⟩, a13⟩ := a
    obtain ⟨b1, b2, b3, b4, b5, b6, ⟨b7, b8, ⟨b9, b10⟩, ⟨b11, b12⟩⟩, b13⟩ := b
    simp only at h1 h2 h3 h4 h5 h6 h7 h8 h9 h10 h11 h12 h13
    rw [h1, h2, h3, h4, h5, h6, h7, h8, h9, str_eq h10, h11, str_eq h12, str_eq h13]
  · rintro rfl; rfl
theorem cellsOf_en : Tryd.prog.cellsOf 31 = 13 := by kernel_rfl
theorem lits_en (d : Nat) (e : Ent) (h : GoodEn e) : Tryd.prog.keyLits (d + 4) 31 (enCells e) = some (enLits e) := by
  rw [show d + 4 = (d + 3) + 1 from rfl]
  unfold Program.keyLits
  rw [Tryd.underlying31]
  simp only
  rw [if_pos ⟨by rw [cellsOf_en]; rfl, by kernel_rfl⟩]
  have h1 := lits_int (d + 2) e.lsn h.lsn
  have h2 := lits_int (d + 2) e.kind h.kind
  have h3 := lits_int (d + 2) e.tx h.tx
  have h4 := lits_int (d + 2) e.ptx h.ptx
  have h5 := lits_int (d + 2) e.ppg h.ppg
  have h6 := lits_int (d + 2) e.ref h.ref
  have h7 := lits_ch d e.ch h.ch
  have h8 := lits_string (d + 2) e.blob h.blob
  simp only [chCells] at h7
  unfold enCells
  simp only [List.mapM_cons, List.mapM_nil, cellsOf_int, cellsOf_ch, cellsOf_string, List.drop_zero, List.take_succ_cons, List.take_zero, List.drop_succ_cons, h1, h2, h3, h4, h5, h6, h7, h8]
  simp [enLits, chLits, List.flatten, pure, bind]
theorem en_formed (e : Ent) : (Value.agg (enCells e).toArray).formed Tryd.prog 31 = true := by
  unfold Value.formed
  rw [Tryd.underlying31]
  simp only
  rw [List.size_toArray, enCells_length, cellsOf_en]
  rfl
theorem equal_en (a b : Ent) (ha : GoodEn a) (hb : GoodEn b) (w : World) : Sem.run Tryd.prog (Op.equal 31 (.agg (enCells a).toArray) (.agg (enCells b).toArray)) w = .ok (sameV a b) w :=
  equal_lits 31 a b _ _ _ _ (by kernel_rfl) (en_formed a) (en_formed b) (lits_en 0 a ha) (lits_en 0 b hb) (enLits_iff a b) w
/-! which are valid -/
def isTxB (n : Int) : Bool := decide (1 ≤ n) && decide (n ≤ 1073741824)
def zeroB (n : Int) : Bool := decide (n = 0)
def posB (n : Int) : Bool := decide (0 < n)
def anyB (_ : Int) : Bool := true
def noRefB (r _ : Int) : Bool := decide (r = 0)
def anyRefB (_ _ : Int) : Bool := true
def upB (r p : Int) : Bool := decide (1 ≤ r) && decide (r ≤ p)
noncomputable def noChB (c : Chg) : Bool := sameV c chNil
noncomputable def aloneB (c : Chg) : Bool := sameV c ⟨c.page, 0, emptyCl, emptyCl⟩ && chOkB c
def noBlobB (s : ByteArray) : Bool := decide (s.size = 0)
def blobB (s : ByteArray) : Bool := decide (s.size ≤ 8192)
structure RuleF where
  p0 : Int → Bool
  p1 : Int → Bool
  p2 : Int → Bool
  p3 : Int → Int → Bool
  p4 : Chg → Bool
  p5 : ByteArray → Bool
noncomputable def markF : RuleF := ⟨isTxB, posB, zeroB, noRefB, noChB, noBlobB⟩
noncomputable def textF : RuleF := ⟨zeroB, zeroB, zeroB, noRefB, noChB, blobB⟩
noncomputable def ruleF (k : Int) : RuleF :=
  if k = 1 then ⟨isTxB, anyB, anyB, noRefB, chOkB, noBlobB⟩
  else if k = 2 then ⟨isTxB, posB, anyB, upB, chOkB, noBlobB⟩
  else if k = 3 ∨ k = 4 ∨ k = 5 then markF
  else if k = 7 then ⟨zeroB, zeroB, zeroB, anyRefB, aloneB, noBlobB⟩
  else textF
def kindB (k : Int) : Bool := decide (1 ≤ k) && decide (k ≤ 8)
def befB (n l : Int) : Bool := decide (0 ≤ n) && decide (n < l)
noncomputable def entOkB (e : Ent) : Bool :=
  kindB e.kind && (decide (1 ≤ e.lsn) && (decide (e.lsn ≤ 1099511627776) && (befB e.ptx e.lsn && (befB e.ppg e.lsn && (befB e.ref e.lsn &&
    ((ruleF e.kind).p0 e.tx && ((ruleF e.kind).p1 e.ptx && ((ruleF e.kind).p2 e.ppg && ((ruleF e.kind).p3 e.ref e.ptx && ((ruleF e.kind).p4 e.ch && (ruleF e.kind).p5 e.blob))))))))))
/-- the reference's shape -/
def shapeE (e : Ent) : Ent :=
  if e.kind = 1 then ⟨e.lsn, e.kind, e.tx, e.ptx, e.ppg, 0, e.ch, emptyS⟩
  else if e.kind = 2 then ⟨e.lsn, e.kind, e.tx, e.ptx, e.ppg, e.ref, e.ch, emptyS⟩
  else if e.kind = 3 ∨ e.kind = 4 ∨ e.kind = 5 then ⟨e.lsn, e.kind, e.tx, e.ptx, 0, 0, chNil, emptyS⟩
  else if e.kind = 6 ∨ e.kind = 8 then ⟨e.lsn, e.kind, 0, 0, 0, 0, chNil, e.blob⟩
  else if e.kind = 7 then ⟨e.lsn, e.kind, 0, 0, 0, e.ref, ⟨e.ch.page, 0, emptyCl, emptyCl⟩, emptyS⟩
  else ⟨e.lsn, e.kind, 0, 0, 0, 0, chNil, emptyS⟩
def shapeB (e : Ent) : Bool :=
  if e.kind = 1 then chOkB e.ch && isTxB e.tx
  else if e.kind = 2 then chOkB e.ch && (posB e.ptx && (upB e.ref e.ptx && isTxB e.tx))
  else if e.kind = 3 ∨ e.kind = 4 ∨ e.kind = 5 then isTxB e.tx && posB e.ptx
  else if e.kind = 6 ∨ e.kind = 8 then blobB e.blob
  else if e.kind = 7 then decide (0 ≤ e.ch.page) && decide (e.ch.page < 64)
  else false
theorem size_zero {s : ByteArray} : s.size = 0 ↔ s = emptyS := by
  constructor
  · intro h
    apply str_eq
    rw [show emptyS.data.toList = [] from rfl]
    exact List.eq_nil_of_length_eq_zero (by rw [size_list]; exact h)
  · rintro rfl; rfl
theorem alone_ok {p : Int} : chOkB ⟨p, 0, emptyCl, emptyCl⟩ = (decide (0 ≤ p) && decide (p < 64)) := by
  unfold chOkB
  have h : cellOkB emptyCl = true := by decide
  simp [h]
theorem ent_mk (e : Ent) (l k t p g r : Int) (c : Chg) (b : ByteArray) : ((⟨l, k, t, p, g, r, c, b⟩ : Ent) = e) ↔ (l = e.lsn ∧ k = e.kind ∧ t = e.tx ∧ p = e.ptx ∧ g = e.ppg ∧ r = e.ref ∧ c = e.ch ∧ b = e.blob) := by
  constructor
  · rintro rfl; exact ⟨rfl, rfl, rfl, rfl, rfl, rfl, rfl, rfl⟩
  · rintro ⟨rfl, rfl, rfl, rfl, rfl, rfl, rfl, rfl⟩; rfl
/-- the reference's check is the program's -/
theorem ent_ok_ref (e : Ent) : (shapeB e && (sameV (shapeE e) e && (decide (1 ≤ e.lsn) && (decide (e.lsn ≤ 1099511627776) && (befB e.ptx e.lsn && (befB e.ppg e.lsn && befB e.ref e.lsn)))))) = entOkB e := by
  have hk : e.kind = 1 ∨ e.kind = 2 ∨ e.kind = 3 ∨ e.kind = 4 ∨ e.kind = 5 ∨ e.kind = 6 ∨ e.kind = 7 ∨ e.kind = 8 ∨ (e.kind < 1 ∨ 8 < e.kind) := by omega
  rw [Bool.eq_iff_iff]
  simp only [Bool.and_eq_true, decide_eq_true_eq, sameV_iff, entOkB]
  rcases hk with h | h | h | h | h | h | h | h | h
  · simp only [shapeB, shapeE, ruleF, h, if_true, ent_mk, kindB, anyB, noRefB, noBlobB, Bool.and_eq_true, decide_eq_true_eq, size_zero]
    simp only [show (1 : Int) ≤ 1 from by decide, show (1 : Int) ≤ 8 from by decide, true_and]
    constructor
    · rintro ⟨⟨a, b⟩, c, d⟩; exact ⟨d.1, d.2.1, d.2.2.1, d.2.2.2.1, d.2.2.2.2, b, c.1.symm, a, c.2.symm⟩
    · rintro ⟨a, b, c, d, f, g, h, i, j⟩; exact ⟨⟨i, g⟩, ⟨h.symm, j.symm⟩, a, b, c, d, f⟩
  · simp only [shapeB, shapeE, ruleF, h, ent_mk, kindB, anyB, upB, noBlobB, Bool.and_eq_true, decide_eq_true_eq, size_zero, Int.reduceEq, or_true, true_or, or_false, false_or, or_self, reduceIte, if_false, if_true]
    simp only [show (1 : Int) ≤ 2 from by decide, show (2 : Int) ≤ 8 from by decide, true_and]
    constructor
    · rintro ⟨⟨a, b, c, d⟩, f, g⟩; exact ⟨g.1, g.2.1, g.2.2.1, g.2.2.2.1, g.2.2.2.2, d, b, c, a, f.symm⟩
    · rintro ⟨a, b, c, d, f, g, h, i, j, k⟩; exact ⟨⟨j, h, i, g⟩, k.symm, a, b, c, d, f⟩
  · simp only [shapeB, shapeE, ruleF, markF, h, ent_mk, kindB, zeroB, noRefB, noChB, noBlobB, Bool.and_eq_true, decide_eq_true_eq, size_zero, sameV_iff, Int.reduceEq, or_true, true_or, or_false, false_or, or_self, reduceIte, if_false, if_true]
    simp only [show (1 : Int) ≤ 3 from by decide, show (3 : Int) ≤ 8 from by decide, true_and]
    constructor
    · rintro ⟨⟨a, b⟩, ⟨c, d, f, g⟩, h⟩; exact ⟨h.1, h.2.1, h.2.2.1, h.2.2.2.1, h.2.2.2.2, a, b, c.symm, d.symm, f.symm, g.symm⟩
    · rintro ⟨a, b, c, d, f, g, h, i, j, k, l⟩; exact ⟨⟨g, h⟩, ⟨i.symm, j.symm, k.symm, l.symm⟩, a, b, c, d, f⟩
  · simp only [shapeB, shapeE, ruleF, markF, h, ent_mk, kindB, zeroB, noRefB, noChB, noBlobB, Bool.and_eq_true, decide_eq_true_eq, size_zero, sameV_iff, Int.reduceEq, or_true, true_or, or_false, false_or, or_self, reduceIte, if_false, if_true]
    simp only [show (1 : Int) ≤ 4 from by decide, show (4 : Int) ≤ 8 from by decide, true_and]
    constructor
    · rintro ⟨⟨a, b⟩, ⟨c, d, f, g⟩, h⟩; exact ⟨h.1, h.2.1, h.2.2.1, h.2.2.2.1, h.2.2.2.2, a, b, c.symm, d.symm, f.symm, g.symm⟩
    · rintro ⟨a, b, c, d, f, g, h, i, j, k, l⟩; exact ⟨⟨g, h⟩, ⟨i.symm, j.symm, k.symm, l.symm⟩, a, b, c, d, f⟩
  · simp only [shapeB, shapeE, ruleF, markF, h, ent_mk, kindB, zeroB, noRefB, noChB, noBlobB, Bool.and_eq_true, decide_eq_true_eq, size_zero, sameV_iff, Int.reduceEq, or_true, true_or, or_false, false_or, or_self, reduceIte, if_false, if_true]
    simp only [show (1 : Int) ≤ 5 from by decide, show (5 : Int) ≤ 8 from by decide, true_and]
    constructor
    · rintro ⟨⟨a, b⟩, ⟨c, d, f, g⟩, h⟩; exact ⟨h.1, h.2.1, h.2.2.1, h.2.2.2.1, h.2.2.2.2, a, b, c.symm, d.symm, f.symm, g.symm⟩
    · rintro ⟨a, b, c, d, f, g, h, i, j, k, l⟩; exact ⟨⟨g, h⟩, ⟨i.symm, j.symm, k.symm, l.symm⟩, a, b, c, d, f⟩
  · simp only [shapeB, shapeE, ruleF, textF, h, ent_mk, kindB, zeroB, noRefB, noChB, blobB, Bool.and_eq_true, decide_eq_true_eq, sameV_iff, Int.reduceEq, or_true, true_or, or_false, false_or, or_self, reduceIte, if_false, if_true]
    simp only [show (1 : Int) ≤ 6 from by decide, show (6 : Int) ≤ 8 from by decide, true_and, and_true]
    constructor
    · rintro ⟨a, ⟨b, c, d, f, g⟩, h⟩; exact ⟨h.1, h.2.1, h.2.2.1, h.2.2.2.1, h.2.2.2.2, b.symm, c.symm, d.symm, f.symm, g.symm, a⟩
    · rintro ⟨a, b, c, d, f, g, h, i, j, k, l⟩; exact ⟨l, ⟨g.symm, h.symm, i.symm, j.symm, k.symm⟩, a, b, c, d, f⟩
  · simp only [shapeB, shapeE, ruleF, h, ent_mk, kindB, zeroB, anyRefB, aloneB, noBlobB, Bool.and_eq_true, decide_eq_true_eq, size_zero, sameV_iff, Int.reduceEq, or_true, true_or, or_false, false_or, or_self, reduceIte, if_false, if_true]
    simp only [show (1 : Int) ≤ 7 from by decide, show (7 : Int) ≤ 8 from by decide, true_and]
    constructor
    · rintro ⟨⟨a, a'⟩, ⟨b, c, d, f, g⟩, h⟩
      refine ⟨h.1, h.2.1, h.2.2.1, h.2.2.2.1, h.2.2.2.2, b.symm, c.symm, d.symm, ⟨f.symm, ?_⟩, g.symm⟩
      rw [← f, alone_ok]
      simp [a, a']
    · rintro ⟨a, b, c, d, f, g, h, i, ⟨j, k⟩, l⟩
      rw [j, alone_ok] at k
      simp at k
      exact ⟨k, ⟨g.symm, h.symm, i.symm, j.symm, l.symm⟩, a, b, c, d, f⟩
  · simp only [shapeB, shapeE, ruleF, textF, h, ent_mk, kindB, zeroB, noRefB, noChB, blobB, Bool.and_eq_true, decide_eq_true_eq, sameV_iff, Int.reduceEq, or_true, true_or, or_false, false_or, or_self, reduceIte, if_false, if_true]
    simp only [show (1 : Int) ≤ 8 from by decide, show (8 : Int) ≤ 8 from by decide, true_and, and_true]
    constructor
    · rintro ⟨a, ⟨b, c, d, f, g⟩, h⟩; exact ⟨h.1, h.2.1, h.2.2.1, h.2.2.2.1, h.2.2.2.2, b.symm, c.symm, d.symm, f.symm, g.symm, a⟩
    · rintro ⟨a, b, c, d, f, g, h, i, j, k, l⟩; exact ⟨l, ⟨g.symm, h.symm, i.symm, j.symm, k.symm⟩, a, b, c, d, f⟩
  · have h1 : shapeB e = false := by
      unfold shapeB
      rw [if_neg (by omega), if_neg (by omega), if_neg (by omega), if_neg (by omega), if_neg (by omega)]
    have h2 : kindB e.kind = false := by unfold kindB; simp; omega
    rw [h1, h2]
    simp
end Go.Proofs.YtpmfdpkcnldpiaaDoor
/- what a walk keeps of memory: objects, slices of its own, choices; what was there is as it was -/
namespace Go.Proofs.YtpmfdpkcnldpiaaDoor
open Go.RowKit
set_option maxRecDepth 20000

/-- cells that are read: a block, a place in it, what lies there -/
abbrev Rng := Nat × Nat × List Value
def RdIn (W : World) (R : List Rng) : Prop := ∀ r ∈ R, r.1 < W.heap.size ∧ W.rangeAt r.1 r.2.1 r.2.2
theorem RdIn.keep {W W' : World} {R : List Rng} (h : RdIn W R) (hs : W.heap.size ≤ W'.heap.size) (hk : ∀ b ∈ R.map (·.1), W'.heap[b]? = W.heap[b]?) : RdIn W' R := fun r hr => by
  obtain ⟨h1, h2⟩ := h r hr
  refine ⟨Nat.lt_of_lt_of_le h1 hs, fun j u hu => ?_⟩
  rw [World.cell?_of_block (a := ⟨r.1, r.2.1 + j, none⟩) (hk r.1 (List.mem_map.2 ⟨r, hr, rfl⟩))]
  exact h2 j u hu
theorem RdIn.lt {W : World} {R : List Rng} (h : RdIn W R) {b : Nat} (hb : b ∈ R.map (·.1)) : b < W.heap.size := by
  obtain ⟨r, hr, rfl⟩ := List.mem_map.1 hb
  exact (h r hr).1
theorem RdIn.below {W W' : World} {R : List Rng} (h : RdIn W R) (hb : Below W.heap.size W W') : RdIn W' R := h.keep hb.size (fun b hb' => hb.block b (h.lt hb'))
theorem RdIn.sub {W : World} {R S : List Rng} (h : RdIn W R) (hs : ∀ r ∈ S, r ∈ R) : RdIn W S := fun r hr => h r (hs r hr)
theorem RdIn.append {W : World} {R S : List Rng} (h : RdIn W R) (k : RdIn W S) : RdIn W (R ++ S) := fun r hr => (List.mem_append.1 hr).elim (h r) (k r)
theorem RdIn.nil (W : World) : RdIn W [] := fun r hr => by cases hr
/-- a thing in new memory: an object; a slice of the walk's own; choices; and cells that are read, wherever they are -/
inductive Th where
  | ob (b : Nat) (t : TypeId) (cs : List Value)
  | sl (v : Value) (e : TypeId) (z n : Nat) (xs : List Value)
  | cd (C : Nat)
  | rd (R : List Rng)
/-- its block -/
def Th.blk : Th → Option Nat
  | .ob b _ _ => some b
  | .sl v _ _ _ _ => v.ownBlock
  | .cd C => some C
  | .rd _ => none
/-- the blocks that it reads -/
def Th.reads : Th → List Nat
  | .rd R => R.map (·.1)
  | _ => []
/-- it lies in W, in memory from B on -/
def Th.In (B : Nat) (W : World) : Th → Prop
  | .ob b t cs => B ≤ b ∧ W.heap[b]? = some (.cells cs.toArray t (0, 0))
  | .sl v e z n xs => W.ownsRow B e z v n xs
  | .cd C => B ≤ C ∧ CodesOk W C ∧ ∃ a len cap, W.cell? ⟨C, 0, none⟩ = some (.slice a len cap) ∧ (0 < len → ∀ b off, a = some ⟨b, off, none⟩ → b < B)
  | .rd R => RdIn W R
def Th.Apart (x y : Th) : Prop := (∀ b, x.blk = some b → y.blk ≠ some b ∧ b ∉ y.reads) ∧ (∀ b, y.blk = some b → b ∉ x.reads)
theorem Th.In.from {B : Nat} {W : World} {x : Th} (h : x.In B W) {b : Nat} (hb : x.blk = some b) : B ≤ b ∧ b < W.heap.size := by
  cases x with
  | ob c t cs =>
    obtain rfl : c = b := Option.some.inj hb
    exact ⟨h.1, (Array.getElem?_eq_some_iff.1 h.2).1⟩
  | sl v e z n xs => exact World.ownsRow.lt h b hb
  | cd C =>
    obtain rfl : C = b := Option.some.inj hb
    exact ⟨h.1, h.2.1.lt⟩
  | rd R => cases hb
theorem Th.In.reads_lt {B : Nat} {W : World} {x : Th} (h : x.In B W) {b : Nat} (hb : b ∈ x.reads) : b < W.heap.size := by
  cases x with
  | rd R => exact RdIn.lt h hb
  | _ => cases hb
theorem codes_keep {w w' : World} {C B : Nat} (h : Th.In B w (.cd C)) (hs : w.heap.size ≤ w'.heap.size) (hC : w'.heap[C]? = w.heap[C]?) (ho : ∀ k, k < B → w'.heap[k]? = w.heap[k]?) : Th.In B w' (.cd C) := by
  obtain ⟨hB, ⟨a, len, cap, i, h0, h1, h2, h3, h4, h5, h6, h7⟩, a', len', cap', h8, h9⟩ := h
  have cell : ∀ j, w'.cell? ⟨C, j, none⟩ = w.cell? ⟨C, j, none⟩ := fun j => World.cell?_of_block (a := ⟨C, j, none⟩) hC
  have e := h1.symm.trans h8
  simp only [Option.some.injEq, Value.slice.injEq] at e
  obtain ⟨rfl, rfl, rfl⟩ := e
  refine ⟨hB, ⟨a, len, cap, i, by omega, by rw [cell 0]; exact h1, by rw [cell 1]; exact h2, by rw [World.frozen?_of_block (a := ⟨C, 1, none⟩) hC]; exact h3, h4, h5, h6, fun hl => ?_⟩, a, len, cap, by rw [cell 0]; exact h8, h9⟩
  obtain ⟨b, off, ha, hbC, hz⟩ := h7 hl
  have hb := h9 hl b off ha
  exact ⟨b, off, ha, hbC, fun j hj => by rw [World.cell?_of_block (a := ⟨b, off + j, none⟩) (ho b hb)]; exact hz j hj⟩
theorem Th.In.keep {B : Nat} {W W' : World} {x : Th} (h : x.In B W) (hs : W.heap.size ≤ W'.heap.size) (hx : ∀ b, x.blk = some b → W'.heap[b]? = W.heap[b]?) (ho : ∀ k, k < B → W'.heap[k]? = W.heap[k]?) (hr : ∀ b ∈ x.reads, W'.heap[b]? = W.heap[b]?) : x.In B W' := by
  cases x with
  | ob c t cs => exact ⟨h.1, (hx c rfl).trans h.2⟩
  | sl v e z n xs =>
    refine ⟨h.1, ?_⟩
    rcases h.2 with h0 | ⟨g, cap, cur, hv, hB, hg, hr⟩
    · exact .inl h0
    · exact .inr ⟨g, cap, cur, hv, hB, (hx g (by rw [hv]; rfl)).trans hg, hr⟩
  | cd C => exact codes_keep h hs (hx C rfl) ho
  | rd R => exact RdIn.keep h hs hr
theorem Th.Apart.symm {x y : Th} (h : x.Apart y) : y.Apart x := ⟨fun b hy => ⟨fun hx => (h.1 b hx).1 hy, h.2 b hy⟩, fun b hx => (h.1 b hx).2⟩

structure Hp (w : World) (L : List Th) (W : World) : Prop where
  old : Below w.heap.size w W
  all : ∀ x ∈ L, x.In w.heap.size W
  nd : L.Pairwise Th.Apart
theorem Hp.start (w : World) : Hp w [] w := ⟨Below.refl _ _, by simp, .nil⟩
theorem Hp.in {w W : World} {L : List Th} (h : Hp w L W) (i : Nat) {x : Th} (e : L[i]? = some x) : x.In w.heap.size W := h.all _ (List.mem_of_getElem? e)
theorem Hp.get {w W : World} {L : List Th} (h : Hp w L W) (i : Nat) {b : Nat} {t : TypeId} {cs : List Value} (e : L[i]? = some (.ob b t cs)) : W.heap[b]? = some (.cells cs.toArray t (0, 0)) := (h.in i e).2
theorem Hp.at {w W : World} {L : List Th} (h : Hp w L W) (i : Nat) {b : Nat} {t : TypeId} {cs : List Value} (e : L[i]? = some (.ob b t cs)) (k : Nat) {v : Value} (hv : cs[k]? = some v) : W.cell? ⟨b, k, none⟩ = some v := by
  rw [cell_of_row W b k _ _ _ (h.get i e), List.getElem?_toArray]; exact hv
theorem Hp.frozen {w W : World} {L : List Th} (h : Hp w L W) (i : Nat) {b : Nat} {t : TypeId} {cs : List Value} (e : L[i]? = some (.ob b t cs)) (k : Nat) : W.frozen? ⟨b, k, none⟩ = false := frozen_of_row _ _ _ _ _ (h.get i e)
theorem Hp.codes {w W : World} {L : List Th} (h : Hp w L W) (i : Nat) {C : Nat} (e : L[i]? = some (.cd C)) : CodesOk W C := (h.in i e).2.1
theorem Hp.own {w W : World} {L : List Th} (h : Hp w L W) (i : Nat) {v : Value} {t : TypeId} {z n : Nat} {xs : List Value} (e : L[i]? = some (.sl v t z n xs)) : W.ownsRow w.heap.size t z v n xs := h.in i e
theorem Hp.lt {w W : World} {L : List Th} (h : Hp w L W) (i : Nat) {x : Th} {b : Nat} (e : L[i]? = some x) (hb : x.blk = some b) : w.heap.size ≤ b ∧ b < W.heap.size := (h.in i e).from hb
theorem apart_at {L : List Th} (hn : L.Pairwise Th.Apart) : ∀ (i j : Nat) (x y : Th), L[i]? = some x → L[j]? = some y → i ≠ j → x.Apart y := by
  induction L with
  | nil => intro i j x y hx; simp at hx
  | cons z l ih =>
    rw [List.pairwise_cons] at hn
    intro i j x y hx hy hij
    cases i with
    | zero =>
      cases j with
      | zero => exact absurd rfl hij
      | succ j =>
        obtain rfl : z = x := by simpa using hx
        exact hn.1 y (List.mem_of_getElem? (by simpa using hy))
    | succ i =>
      cases j with
      | zero =>
        obtain rfl : z = y := by simpa using hy
        exact (hn.1 x (List.mem_of_getElem? (by simpa using hx))).symm
      | succ j => exact ih hn.2 i j x y (by simpa using hx) (by simpa using hy) (by omega)
theorem Hp.ne {w W : World} {L : List Th} (h : Hp w L W) (i j : Nat) {x y : Th} {b c : Nat} (ei : L[i]? = some x) (ej : L[j]? = some y) (hij : i ≠ j) (hb : x.blk = some b) (hc : y.blk = some c) : b ≠ c := fun e => by
  subst e
  exact (apart_at h.nd i j x y ei ej hij).1 b hb |>.1 hc
theorem Hp.drew {w W : World} {L : List Th} (h : Hp w L W) : Hp w L W.drew := ⟨h.old.drew, fun x hx => (h.all x hx).keep (Nat.le_refl _) (fun _ _ => rfl) (fun _ _ => rfl) (fun _ _ => rfl), h.nd⟩
theorem Hp.drewN {w W : World} {L : List Th} (h : Hp w L W) (q : Nat) : Hp w L (W.drewN q) := ⟨⟨h.old.os, h.old.tape, h.old.output, h.old.size, h.old.block⟩, fun x hx => (h.all x hx).keep (Nat.le_refl _) (fun _ _ => rfl) (fun _ _ => rfl) (fun _ _ => rfl), h.nd⟩
theorem Hp.calls {w W W' : World} {L : List Th} (h : Hp w L W) (hb : Below W.heap.size W W') : Hp w L W' :=
  ⟨h.old.trans (hb.mono h.old.size), fun x hx => (h.all x hx).keep hb.size (fun b e => hb.block b ((h.all x hx).from e).2) (fun k hk => hb.block k (Nat.lt_of_lt_of_le hk h.old.size)) (fun b hbr => hb.block b ((h.all x hx).reads_lt hbr)), h.nd⟩
theorem mem_apart {L : List Th} (hn : L.Pairwise Th.Apart) {x z : Th} (hx : x ∈ L) (hz : z ∈ L) {b : Nat} (hb : x.blk = some b) (hr : b ∈ z.reads) : False := by
  induction L with
  | nil => cases hx
  | cons y l ih =>
    rw [List.pairwise_cons] at hn
    rcases List.mem_cons.1 hx with rfl | hx'
    · rcases List.mem_cons.1 hz with rfl | hz'
      · cases z <;> first | (cases hb; done) | (cases hr; done) | simp [Th.blk] at hb
      · exact ((hn.1 z hz').1 b hb).2 hr
    · rcases List.mem_cons.1 hz with rfl | hz'
      · exact (hn.1 x hx').2 b hb hr
      · exact ih hn.2 hx' hz'
theorem Hp.reads_apart {w W : World} {L : List Th} (h : Hp w L W) {x z : Th} (hx : x ∈ L) (hz : z ∈ L) {b : Nat} (hb : x.blk = some b) (hr : b ∈ z.reads) : False := mem_apart h.nd hx hz hb hr
theorem Hp.add {w W W' : World} {L : List Th} (h : Hp w L W) (hb : Below W.heap.size W W') (y : Th) (hy : y.In w.heap.size W') (hn : ∀ b, y.blk = some b → W.heap.size ≤ b) (hr : ∀ b ∈ y.reads, W.heap.size ≤ b ∨ ∃ z ∈ L, b ∈ z.reads) : Hp w (L ++ [y]) W' := by
  have h' := h.calls hb
  refine ⟨h'.old, fun x hx => ?_, ?_⟩
  · rcases List.mem_append.1 hx with hx | hx
    · exact h'.all x hx
    · obtain rfl := List.mem_singleton.1 hx
      exact hy
  · rw [List.pairwise_append]
    refine ⟨h.nd, List.pairwise_singleton _ _, fun a ha b hb => ?_⟩
    obtain rfl := List.mem_singleton.1 hb
    refine ⟨fun c hac => ⟨fun hbc => ?_, fun hbr => ?_⟩, fun c hbc har => ?_⟩
    · have h1 := ((h.all a ha).from hac).2
      have h2 := hn c hbc
      omega
    · have h1 := ((h.all a ha).from hac).2
      rcases hr c hbr with h2 | ⟨z, hz, hzr⟩
      · omega
      · exact h.reads_apart ha hz hac hzr
    · have h1 := (h.all a ha).reads_lt har
      have h2 := hn c hbc
      omega
/-- an object is made -/
theorem Hp.put {w W : World} {L : List Th} (h : Hp w L W) (t : TypeId) (cs : List Value) : Hp w (L ++ [.ob W.heap.size t cs]) (W.alloc (.cells cs.toArray t)) :=
  h.add ((Below.refl _ _).alloc (Nat.le_refl _) _) (.ob W.heap.size t cs) ⟨h.old.size, heap_alloc_last W _⟩ (fun b e => by obtain rfl : W.heap.size = b := Option.some.inj e; exact Nat.le_refl _) (fun b e => by cases e)
/-- choices begin -/
theorem Hp.begin {w W W' : World} {L : List Th} (h : Hp w L W) (hb : Below W.heap.size W W') (hc : CodesOk W' W.heap.size) (hl : ∃ a len cap, W'.cell? ⟨W.heap.size, 0, none⟩ = some (.slice a len cap) ∧ (0 < len → ∀ b off, a = some ⟨b, off, none⟩ → b < w.heap.size)) : Hp w (L ++ [.cd W.heap.size]) W' :=
  h.add hb (.cd W.heap.size) ⟨h.old.size, hc, hl⟩ (fun b e => by obtain rfl : W.heap.size = b := Option.some.inj e; exact Nat.le_refl _) (fun b e => by cases e)
/-- a slice of its own, nil as yet -/
theorem Hp.nil {w W : World} {L : List Th} (h : Hp w L W) (t : TypeId) (z : Nat) : Hp w (L ++ [.sl (.slice none 0 0) t z 0 []]) W :=
  h.add (Below.refl _ _) _ ⟨by simp, .inl ⟨rfl, rfl⟩⟩ (fun b e => by cases e) (fun b e => by cases e)
theorem pair_set' {L : List Th} {i : Nat} {x : Th} (hn : L.Pairwise Th.Apart) (e : L[i]? = some x) (y : Th) (hy : ∀ z ∈ L, z.Apart x → z.Apart y) : (L.set i y).Pairwise Th.Apart := by
  induction L generalizing i with
  | nil => simp at e
  | cons z l ih =>
    rw [List.pairwise_cons] at hn
    cases i with
    | zero =>
      obtain rfl : z = x := by simpa using e
      rw [List.set_cons_zero, List.pairwise_cons]
      exact ⟨fun u hu => (hy u (List.mem_cons_of_mem _ hu) (hn.1 u hu).symm).symm, hn.2⟩
    | succ i =>
      have e' : l[i]? = some x := by simpa using e
      rw [List.set_cons_succ, List.pairwise_cons]
      refine ⟨fun u hu => ?_, ih hn.2 e' (fun z hz => hy z (List.mem_cons_of_mem _ hz))⟩
      rcases List.mem_or_eq_of_mem_set hu with hu | rfl
      · exact hn.1 u hu
      · exact hy z (List.mem_cons_self ..) (hn.1 x (List.mem_of_getElem? e'))
theorem other_th {L : List Th} {i : Nat} {x z : Th} (hn : L.Pairwise Th.Apart) (e : L[i]? = some x) (y : Th) (hz : z ∈ L.set i y) : z = y ∨ (z ∈ L ∧ z.Apart x) := by
  induction L generalizing i with
  | nil => simp at e
  | cons u l ih =>
    rw [List.pairwise_cons] at hn
    cases i with
    | zero =>
      obtain rfl : u = x := by simpa using e
      rw [List.set_cons_zero] at hz
      rcases List.mem_cons.1 hz with rfl | hz
      · exact .inl rfl
      · exact .inr ⟨List.mem_cons_of_mem _ hz, (hn.1 z hz).symm⟩
    | succ i =>
      have e' : l[i]? = some x := by simpa using e
      rw [List.set_cons_succ] at hz
      rcases List.mem_cons.1 hz with rfl | hz
      · exact .inr ⟨List.mem_cons_self .., hn.1 x (List.mem_of_getElem? e')⟩
      · rcases ih hn.2 e' hz with h | h
        · exact .inl h
        · exact .inr ⟨List.mem_cons_of_mem _ h.1, h.2⟩
/-- a thing is turned; all that is not its block is as it was -/
theorem Hp.swap {w W W' : World} {L : List Th} (h : Hp w L W) (i : Nat) {x : Th} (e : L[i]? = some x) (y : Th) (hy : y.In w.heap.size W') (hn : ∀ b, y.blk = some b → x.blk = some b ∨ W.heap.size ≤ b) (hyr : y.reads = [])
    (hk : ∀ k, k < W.heap.size → x.blk ≠ some k → W'.heap[k]? = W.heap[k]?) (hos : W'.os = W.os) (ht : W'.tape = W.tape) (hout : W'.output = W.output) (hs : W.heap.size ≤ W'.heap.size) : Hp w (L.set i y) W' := by
  have hx := h.in i e
  have hold : ∀ k, k < w.heap.size → W'.heap[k]? = W.heap[k]? := fun k hk' => hk k (Nat.lt_of_lt_of_le hk' h.old.size) (fun e => by have := (hx.from e).1; omega)
  refine ⟨⟨hos.trans h.old.os, ht.trans h.old.tape, hout.trans h.old.output, Nat.le_trans h.old.size hs, fun k hk' => (hold k hk').trans (h.old.block k hk')⟩, fun z hz => ?_, pair_set' h.nd e y (fun z hz hzx => ?_)⟩
  · rcases other_th h.nd e y hz with rfl | ⟨hz, hzx⟩
    · exact hy
    · exact (h.all z hz).keep hs (fun b hb => hk b ((h.all z hz).from hb).2 (hzx.1 b hb).1) hold (fun b hb => hk b ((h.all z hz).reads_lt hb) (fun e => hzx.2 b e hb))
  · refine ⟨fun b hzb => ⟨fun hyb => ?_, fun hr => by rw [hyr] at hr; cases hr⟩, fun b hyb hzr => ?_⟩
    · rcases hn b hyb with hxb | hge
      · exact (hzx.1 b hzb).1 hxb
      · have := ((h.all z hz).from hzb).2
        omega
    · rcases hn b hyb with hxb | hge
      · exact hzx.2 b hxb hzr
      · have := (h.all z hz).reads_lt hzr
        omega
theorem Hp.draws {w W W' : World} {L : List Th} (h : Hp w L W) (i : Nat) {C : Nat} (e : L[i]? = some (.cd C)) (hb : Besides C W W') (hc : CodesOk W' C) : Hp w (L.set i (.cd C)) W' := by
  obtain ⟨hB, hok, a, len, cap, h8, h9⟩ := h.in i e
  exact h.swap i e (.cd C) ⟨hB, hc, a, len, cap, (hb.head hok.lt).trans h8, h9⟩ (fun b hb => .inl hb) rfl (fun k hk hne => hb.block k hk (fun e => hne (by rw [e]; rfl))) hb.os hb.tape hb.output hb.size
theorem Hp.set {w W : World} {L : List Th} (h : Hp w L W) (i : Nat) {b : Nat} {t : TypeId} {cs : List Value} (e : L[i]? = some (.ob b t cs)) (k : Nat) (v : Value) : Hp w (L.set i (.ob b t (cs.set k v))) (W.setCell ⟨b, k, none⟩ v) := by
  refine h.swap i e _ ⟨(h.in i e).1, ?_⟩ (fun b hb => .inl hb) rfl (fun j hj hne => Below.heap_setCell _ _ _ _ (fun e => hne (by rw [e]; rfl))) rfl rfl rfl (by simp [World.setCell])
  have := heap_setCell_same W b k _ _ v (h.get i e)
  rw [List.setIfInBounds_toArray] at this
  exact this
theorem Hp.row {w W : World} {L : List Th} (h : Hp w L W) (i : Nat) {b : Nat} {t : TypeId} {cs : List Value} (e : L[i]? = some (.ob b t cs)) (cs' : List Value) : Hp w (L.set i (.ob b t cs')) (W.setRow b cs'.toArray) :=
  h.swap i e _ ⟨(h.in i e).1, setRow_heap _ _ _ _ _ _ (h.get i e)⟩ (fun b hb => .inl hb) rfl (fun j hj hne => setRow_other _ _ _ _ (fun e => hne (by rw [e]; rfl))) rfl rfl rfl (by simp [World.setRow])
/-- a slice of its own has grown -/
theorem Hp.grown {w W W' : World} {L : List Th} (h : Hp w L W) (i : Nat) {v v' : Value} {t : TypeId} {z n m : Nat} {xs ys : List Value} (e : L[i]? = some (.sl v t z n xs)) (ho : W'.ownsRow w.heap.size t z v' m ys) (hg : W.grownBy W' v.ownBlock) (hb : v'.ownBlock = v.ownBlock ∨ v'.ownBlock = some W.heap.size) : Hp w (L.set i (.sl v' t z m ys)) W' := by
  refine h.swap i e _ ho (fun b hb' => ?_) rfl (fun k hk hne => hg.block k hk (fun e => hne e.symm)) hg.os hg.tape hg.output hg.size
  have hb'' : v'.ownBlock = some b := hb'
  rcases hb with hb | hb
  · exact .inl (hb.symm.trans hb'')
  · right
    rw [hb] at hb''
    exact Nat.le_of_eq (Option.some.inj hb'')
/-- what is not needed any more -/
theorem Hp.forget {w W : World} {L M : List Th} (h : Hp w (L ++ M) W) : Hp w L W := ⟨h.old, fun x hx => h.all x (List.mem_append_left _ hx), (List.pairwise_append.1 h.nd).1⟩
/-- some of the things alone -/
def Hold (B : Nat) (L : List Th) (W : World) : Prop := ∀ x ∈ L, x.In B W
theorem Hold.get {B : Nat} {L : List Th} {W : World} (h : Hold B L W) (i : Nat) {b : Nat} {t : TypeId} {cs : List Value} (e : L[i]? = some (.ob b t cs)) : W.heap[b]? = some (.cells cs.toArray t (0, 0)) := (h _ (List.mem_of_getElem? e)).2
theorem Hold.at {B : Nat} {L : List Th} {W : World} (h : Hold B L W) (i : Nat) {b : Nat} {t : TypeId} {cs : List Value} (e : L[i]? = some (.ob b t cs)) (k : Nat) {v : Value} (hv : cs[k]? = some v) : W.cell? ⟨b, k, none⟩ = some v := by
  rw [cell_of_row W b k _ _ _ (h.get i e), List.getElem?_toArray]; exact hv
theorem Hold.whole {B : Nat} {L : List Th} {W : World} (h : Hold B L W) (i : Nat) {b : Nat} {t : TypeId} {cs : List Value} (e : L[i]? = some (.ob b t cs)) : W.rangeAt b 0 cs := fun j v hv => by
  rw [Nat.zero_add]; exact h.at i e j hv
theorem Hp.pick {w W : World} {L M : List Th} (h : Hp w L W) (is : List Nat) (e : is.map (fun i => L[i]?) = M.map some) : Hold w.heap.size M W := fun x hx => by
  have : some x ∈ M.map some := List.mem_map.2 ⟨x, hx, rfl⟩
  rw [← e, List.mem_map] at this
  obtain ⟨i, _, hi⟩ := this
  exact h.in i hi
theorem Hp.pull {w W : World} {L M : List Th} (h : Hp w L W) (is : List Nat) (e : is.map (fun i => L[i]?) = M.map some) (hn : M.Pairwise Th.Apart) : Hp w M W := ⟨h.old, h.pick is e, hn⟩
theorem pull_nd {L M : List Th} (hn : L.Pairwise Th.Apart) (is : List Nat) (e : is.map (fun i => L[i]?) = M.map some) (hd : is.Pairwise (· ≠ ·)) : M.Pairwise Th.Apart := by
  induction is generalizing M with
  | nil =>
    cases M with
    | nil => exact .nil
    | cons m M => simp at e
  | cons i is ih =>
    cases M with
    | nil => simp at e
    | cons m M =>
      rw [List.map_cons, List.map_cons, List.cons.injEq] at e
      rw [List.pairwise_cons] at hd ⊢
      refine ⟨fun y hy => ?_, ih e.2 hd.2⟩
      have hy' : some y ∈ is.map (fun i => L[i]?) := by rw [e.2]; exact List.mem_map.2 ⟨y, hy, rfl⟩
      obtain ⟨j, hj, hje⟩ := List.mem_map.1 hy'
      exact apart_at hn i j m y e.1 hje (hd.1 j hj)
/-- part of a slice of its own -/
theorem own_range {B : Nat} {W : World} {t : TypeId} {z n : Nat} {v : Value} {xs : List Value} (h : W.ownsRow B t z v n xs) {g cap : Nat} (hv : v = .slice (some ⟨g, 0, none⟩) n cap) (k : Nat) (cs : List Value) (hc : ∀ j u, cs[j]? = some u → xs[k + j]? = some u) : W.rangeAt g k cs := fun j u hu => by
  rcases h.2 with ⟨h0, _⟩ | ⟨g', cap', cur, hv', _, hg, _, _, _, hx⟩
  · rw [hv] at h0; cases h0
  · rw [hv] at hv'
    have e : g = g' := by have := congrArg Value.ownBlock hv'; simpa [Value.ownBlock] using this
    subst e
    have hxs := hc j u hu
    rw [← hx] at hxs
    rw [cell_of_row W g (k + j) _ _ _ hg, ← Array.getElem?_toList]
    rw [List.getElem?_take] at hxs
    split at hxs
    · exact hxs
    · cases hxs
/-- what a type of elements is like -/
structure ElemIs (e : TypeId) (z bytes : Nat) : Prop where
  is : ∃ (inf : TypeInfo) (zv : Value), Tryd.prog.info? e = some inf ∧ inf.zero = some zv ∧ inf.size = z ∧ inf.bytes = bytes ∧ zv.cells.size = z
  pos : 0 < z
  small : z ≤ 65536
  room : bytes ≤ 65536
theorem Hp.append {w W : World} {L : List Th} (h : Hp w L W) (i : Nat) {v : Value} {e : TypeId} {z n : Nat} {xs : List Value} (ei : L[i]? = some (.sl v e z n xs)) (j : Nat) {b : Nat} {t' : TypeId} {ys : List Value} (ej : L[j]? = some (.ob b t' ys))
    (ts : TypeId) (ty : TypeId) {bytes : Nat} (ht : Tryd.prog.underlying ts = some (.slice e)) (he : ElemIs e z bytes) (m c : Nat) (hl : ys.length = m * z) (h1 : ∀ u ∈ ys, u.oneCell' = true) (hn : n + m ≤ 1048576) :
    ∃ v' W', (Builtin.append_ #[ts, ts] ty #[v, .slice (some ⟨b, 0, none⟩) m c]).run Tryd.prog W = .ok v' W' ∧ Hp w (L.set i (.sl v' e z (n + m) (xs ++ ys))) W' ∧ (v' = .slice none 0 0 ↔ v = .slice none 0 0 ∧ m = 0) := by
  obtain ⟨inf, zv, hi, hz, hsize, hby, hzs⟩ := he.is
  have hroom := he.room
  have hcell : ∀ q u, ys[q]? = some u → W.cell? ((⟨b, 0, none⟩ : Addr).add q) = some u := fun q u hu => by
    rw [Addr.add_mid, Nat.zero_add]
    exact h.at j ej q hu
  obtain ⟨v', W', hr, h2, h3, h4, h5⟩ := run_append_own_at (P := Tryd.prog) W w.heap.size ts ty e inf zv z bytes ht hi hz hsize hby hzs he.pos v n xs (h.own i ei) ⟨b, 0, none⟩ m c ys hl hcell h1 (by unfold maxLen; omega) (by
    have := Nat.mul_le_mul hn hroom
    omega) h.old.size
  exact ⟨v', W', hr, h.grown i ei h2 h3 h5, h4⟩
theorem wp_append_hp {o : Oper} {a : Act} {w W : World} {K : Act → World → Prop} {Q : Exit → Act → World → Prop} {L : List Th} (h : Hp w L W) (s x : Operand) (ts : TypeId) (ho : o.op = .call { callee := .builtin .append, args := #[s, x], argTypes := #[ts, ts] })
    (i : Nat) {v : Value} {e : TypeId} {z n : Nat} {xs : List Value} (ei : L[i]? = some (.sl v e z n xs)) (j : Nat) {b : Nat} {t' : TypeId} {ys : List Value} (ej : L[j]? = some (.ob b t' ys)) {bytes : Nat} (ht : Tryd.prog.underlying ts = some (.slice e)) (he : ElemIs e z bytes) (m c : Nat)
    (hs : a.eval s = v) (hx : a.eval x = .slice (some ⟨b, 0, none⟩) m c) (hl : ys.length = m * z) (h1 : ∀ u ∈ ys, u.oneCell' = true) (hn : n + m ≤ 1048576)
    (hk : ∀ v' W', Hp w (L.set i (.sl v' e z (n + m) (xs ++ ys))) W' → (v' = .slice none 0 0 ↔ v = .slice none 0 0 ∧ m = 0) → K (a.put o.dst v') W') : o.wp Tryd.prog a W K Q := by
  obtain ⟨v', W', hr, h2, h3⟩ := h.append i ei j ej ts o.type ht he m c hl h1 hn
  unfold Oper.wp execOp
  simp only [ho, resolve, invoke, builtin, Sem.run_bind, Sem.run_pure, Result.andThen_ok, List.map_toArray, List.map_cons, List.map_nil, hs, hx, hr]
  exact hk v' W' h2 h3
theorem wpList_append_hp {ops : Array Oper} {rest : List Oper} {a : Act} {w W : World} {Q : Exit → Act → World → Prop} {d : Option Tmp} {ty : TypeId} {pos : String} {aft : Array Edge} {L : List Th} (h : Hp w L W) (s x : Operand) (ts : TypeId)
    (i : Nat) {v : Value} {e : TypeId} {z n : Nat} {xs : List Value} (ei : L[i]? = some (.sl v e z n xs)) (j : Nat) {b : Nat} {t' : TypeId} {ys : List Value} (ej : L[j]? = some (.ob b t' ys)) {bytes : Nat} (ht : Tryd.prog.underlying ts = some (.slice e)) (he : ElemIs e z bytes) (m c : Nat)
    (hs : a.eval s = v) (hx : a.eval x = .slice (some ⟨b, 0, none⟩) m c) (hl : ys.length = m * z) (h1 : ∀ u ∈ ys, u.oneCell' = true) (hn : n + m ≤ 1048576)
    (hk : ∀ v' W', Hp w (L.set i (.sl v' e z (n + m) (xs ++ ys))) W' → (v' = .slice none 0 0 ↔ v = .slice none 0 0 ∧ m = 0) → wpList Tryd.prog ops Q rest (a.put d v') W') :
    wpList Tryd.prog ops Q ({ dst := d, op := .call { callee := .builtin .append, args := #[s, x], argTypes := #[ts, ts] }, type := ty, pos := pos, after := aft, guard := none } :: rest) a W :=
  wpList_plain rfl fun _ hK => wp_append_hp h s x ts rfl i ei j ej ht he m c hs hx hl h1 hn (fun v' W' p q => hK _ _ (hk v' W' p q))
/-- a slice of one, two or more elements, each a whole object -/
theorem run_build_obs {e ts : TypeId} {z bytes : Nat} (he : ElemIs e z bytes) (ht : Tryd.prog.underlying ts = some (.slice e)) (vs : List (List Value)) (hv : ∀ x ∈ vs, x.length = z) (h0 : 0 < vs.length) (h16 : vs.length ≤ 256) (W : World) :
    Sem.run Tryd.prog (Instr.buildSlice ts vs.length ((vs.zipIdx 0).map fun x => (x.2, Value.agg x.1.toArray)).toArray) W = .ok (.slice (some ⟨W.heap.size, 0, none⟩) vs.length vs.length) (W.alloc (.cells (vs.flatMap id).toArray e)) := by
  obtain ⟨inf, zv, hi, hz, hsize, hby, hzs⟩ := he.is
  have hp := he.pos
  have hsm := he.small
  refine run_buildSlice W ts e vs.length _ _ inf zv ht hi hz (by rw [hsize]; have := Nat.mul_le_mul h16 hsm; omega) (by rw [hsize]; exact Nat.ne_of_gt (Nat.mul_pos h0 hp)) ?_
  rw [hsize]
  have := Great.fill_whole (s := z) hp (vs.map fun x => Value.agg x.toArray) ((Array.range (vs.length * z)).map (zv.cells[· % zv.cells.size]!)) (by
    intro v hm
    obtain ⟨x, hx, rfl⟩ := List.mem_map.1 hm
    exact hv x hx) (by rw [Array.size_map, Array.size_range, List.length_map])
  rw [List.zipIdx_map, List.map_map] at this
  refine Eq.trans ?_ (this.trans ?_)
  · rfl
  · congr 1
    rw [List.flatMap_map]
    rfl
theorem wp_build_obs {o : Oper} {a : Act} {W : World} {K : Act → World → Prop} {Q : Exit → Act → World → Prop} {ts : TypeId} {n : Nat} {ps : Array (Nat × Operand)} (ho : o.op = .buildSlice ts n ps) {e : TypeId} {z bytes : Nat} (he : ElemIs e z bytes) (ht : Tryd.prog.underlying ts = some (.slice e)) (vs : List (List Value)) (hv : ∀ x ∈ vs, x.length = z) (h0 : 0 < vs.length) (h16 : vs.length ≤ 256) (hn : n = vs.length)
    (hp : ps.map (fun x => (x.1, a.eval x.2)) = ((vs.zipIdx 0).map fun x => (x.2, Value.agg x.1.toArray)).toArray)
    (h : K (a.put o.dst (.slice (some ⟨W.heap.size, 0, none⟩) n n)) (W.alloc (.cells (vs.flatMap id).toArray e))) : o.wp Tryd.prog a W K Q := by
  subst hn
  have hr := run_build_obs he ht vs hv h0 h16 W
  rw [← hp] at hr
  unfold Oper.wp execOp
  simp only [ho, Sem.run_bind, hr, Result.andThen_ok, Sem.run_pure]
  exact h
theorem wpList_build_obs (ts : TypeId) (n : Nat) {ps : Array (Nat × Operand)} {ops : Array Oper} {rest : List Oper} {a : Act} {W : World} {Q : Exit → Act → World → Prop} {d : Option Tmp} {ty : TypeId} {pos : String} {aft : Array Edge} {e : TypeId} {z bytes : Nat} (he : ElemIs e z bytes) (ht : Tryd.prog.underlying ts = some (.slice e)) (vs : List (List Value)) (hv : ∀ x ∈ vs, x.length = z) (h0 : 0 < vs.length) (h16 : vs.length ≤ 256) (hn : n = vs.length)
    (hp : ps.map (fun x => (x.1, a.eval x.2)) = ((vs.zipIdx 0).map fun x => (x.2, Value.agg x.1.toArray)).toArray)
    (h : wpList Tryd.prog ops Q rest (a.put d (.slice (some ⟨W.heap.size, 0, none⟩) n n)) (W.alloc (.cells (vs.flatMap id).toArray e))) :
    wpList Tryd.prog ops Q ({ dst := d, op := .buildSlice ts n ps, type := ty, pos := pos, after := aft, guard := none } :: rest) a W :=
  wpList_plain rfl fun _ hK => wp_build_obs rfl he ht vs hv h0 h16 hn hp (hK _ _ h)
/-- in a region that draws its order: a value that is built may be taken first -/
theorem yieldsIf_build_v {ops : Array Oper} {S : World → Prop} {op : Oper} {a : Act} (hw : Region.wanted op (yielded ops a.tmps) = true) (t : TypeId) (v : Value) {ps : Array (Nat × Operand)} (ho : op.op = .build t ps)
    (hb : ∀ W, Sem.run Tryd.prog (Instr.build t (ps.map fun x => (x.1, a.eval x.2))) W = .ok v W) : YieldsIf Tryd.prog ops S op v a :=
  .inl ⟨hw, fun W _ => by
    unfold execOp
    simp only [ho, Sem.run_bind, hb W, Result.andThen_ok, Sem.run_pure]⟩
theorem flat_mid {z : Nat} : ∀ (vs : List (List Value)) (_ : ∀ x ∈ vs, x.length = z) (k : Nat) (x : List Value), vs[k]? = some x → ∀ j v, x[j]? = some v → (vs.flatMap id)[k * z + j]? = some v
  | [], _, k, x, h, _, _, _ => by simp at h
  | y :: l, hz, 0, x, h, j, v, hv => by
    obtain rfl : y = x := by simpa using h
    rw [List.flatMap_cons, Nat.zero_mul, Nat.zero_add, List.getElem?_append_left (show j < (id y).length from (List.getElem?_eq_some_iff.1 hv).1)]
    exact hv
  | y :: l, hz, k + 1, x, h, j, v, hv => by
    have hy : (id y).length = z := hz y (List.mem_cons_self ..)
    rw [List.flatMap_cons, show (k + 1) * z + j = z + (k * z + j) from by rw [Nat.add_mul]; omega, List.getElem?_append_right (by omega), hy, Nat.add_sub_cancel_left]
    exact flat_mid l (fun u hu => hz u (List.mem_cons_of_mem _ hu)) k x (by simpa using h) j v hv
/-- a slice that a callee has made -/
theorem Hp.addown {w W W' : World} {L : List Th} (h : Hp w L W) (hb : Below W.heap.size W W') {v : Value} {t : TypeId} {z n : Nat} {xs : List Value} (ho : W'.ownsRow W.heap.size t z v n xs) : Hp w (L ++ [.sl v t z n xs]) W' := by
  refine h.add hb _ ⟨ho.1, ?_⟩ (fun b e => (ho.lt b e).1) (fun b e => by cases e)
  rcases ho.2 with h0 | ⟨g, cap, cur, hv, hB, hr⟩
  · exact .inl h0
  · exact .inr ⟨g, cap, cur, hv, Nat.le_trans h.old.size hB, hr⟩
/-- an array of whole objects is built -/
theorem run_build_arr {t e : TypeId} {n z : Nat} (hu : Tryd.prog.underlying t = some (.array n e)) (hs : (Tryd.prog.info? e).map (·.size) = some z) (hz : ((Tryd.prog.info? t).bind (·.zero)).map (·.cells.size) = some (n * z)) (hp : 0 < z) (vs : List (List Value)) (hv : ∀ x ∈ vs, x.length = z) (hn : vs.length = n) (W : World) :
    Sem.run Tryd.prog (Instr.build t ((vs.zipIdx 0).map fun x => (x.2, Value.agg x.1.toArray)).toArray) W = .ok (.agg (vs.flatMap id).toArray) W := by
  refine run_build W t _ _ ?_
  unfold Program.built
  cases hie : Tryd.prog.info? e with
  | none => simp [hie] at hs
  | some ie =>
    cases hit : Tryd.prog.info? t with
    | none => simp [hit] at hz
    | some it =>
      cases hzz : it.zero with
      | none => simp [hit, hzz] at hz
      | some zv =>
        simp only [hie, hit, hzz, Option.map_some, Option.some.injEq, Option.bind_some] at hs hz
        simp only [hu, hzz, hie]
        rw [hs]
        have := Great.fill_whole (s := z) hp (vs.map fun x => Value.agg x.toArray) zv.cells (by
          intro v hm
          obtain ⟨x, hx, rfl⟩ := List.mem_map.1 hm
          exact hv x hx) (by rw [List.length_map, hn, hz])
        rw [List.zipIdx_map, List.map_map] at this
        refine Eq.trans ?_ (this.trans ?_)
        · rfl
        · congr 1
          rw [List.flatMap_map]
          rfl
/-- part of an object -/
theorem Hold.mid {B : Nat} {L : List Th} {W : World} (h : Hold B L W) (i : Nat) {b : Nat} {t : TypeId} {cs : List Value} (e : L[i]? = some (.ob b t cs)) (k : Nat) (vs : List Value) (hv : ∀ j v, vs[j]? = some v → cs[k + j]? = some v) : W.rangeAt b k vs := fun j v hj => h.at i e (k + j) (hv j v hj)
theorem Hp.mid {w W : World} {L : List Th} (h : Hp w L W) (i : Nat) {b : Nat} {t : TypeId} {cs : List Value} (e : L[i]? = some (.ob b t cs)) (k : Nat) (vs : List Value) (hv : ∀ j v, vs[j]? = some v → cs[k + j]? = some v) : W.rangeAt b k vs := fun j v hj => h.at i e (k + j) (hv j v hj)
theorem Hp.reads {w W : World} {L : List Th} (h : Hp w L W) (i : Nat) {R : List Rng} (e : L[i]? = some (.rd R)) : RdIn W R := h.in i e
/-- cells that are read, in memory that a callee made or that is read already -/
theorem Hp.addrd {w W W' : World} {L : List Th} (h : Hp w L W) (hb : Below W.heap.size W W') (R : List Rng) (hR : RdIn W' R) (hr : ∀ r ∈ R, W.heap.size ≤ r.1 ∨ ∃ z ∈ L, r.1 ∈ z.reads) : Hp w (L ++ [.rd R]) W' :=
  h.add hb _ hR (fun b e => by cases e) (fun b hb' => by
    obtain ⟨r, hr', rfl⟩ := List.mem_map.1 hb'
    exact hr r hr')
/-- what the walk found is read -/
theorem Hp.startrd (w : World) (R : List Rng) (hR : RdIn w R) : Hp w [.rd R] w := ⟨Below.refl _ _, fun x hx => by
  obtain rfl := List.mem_singleton.1 hx
  exact hR, List.pairwise_singleton _ _⟩
/-- a slice of single words -/
theorem flat_cells {vs : List Value} (h : ∀ v ∈ vs, v.cells = #[v]) : (vs.flatMap fun v => v.cells.toList) = vs := by
  induction vs with
  | nil => rfl
  | cons v l ih => rw [List.flatMap_cons, h v (List.mem_cons_self ..), ih (fun u hu => h u (List.mem_cons_of_mem _ hu))]; rfl
theorem run_build_vals {e ts : TypeId} {bytes : Nat} (he : ElemIs e 1 bytes) (ht : Tryd.prog.underlying ts = some (.slice e)) (vs : List Value) (hv : ∀ v ∈ vs, v.cells = #[v]) (h0 : 0 < vs.length) (h16 : vs.length ≤ 256) (W : World) :
    Sem.run Tryd.prog (Instr.buildSlice ts vs.length ((vs.zipIdx 0).map fun x => (x.2, x.1)).toArray) W = .ok (.slice (some ⟨W.heap.size, 0, none⟩) vs.length vs.length) (W.alloc (.cells vs.toArray e)) := by
  obtain ⟨inf, zv, hi, hz, hsize, hby, hzs⟩ := he.is
  refine run_buildSlice W ts e vs.length _ _ inf zv ht hi hz (by rw [hsize]; omega) (by rw [hsize]; omega) ?_
  rw [hsize]
  have := Great.fill_whole (s := 1) (by decide) vs ((Array.range (vs.length * 1)).map (zv.cells[· % zv.cells.size]!)) (by
    intro v hm
    rw [hv v hm]; rfl) (by rw [Array.size_map, Array.size_range])
  rw [flat_cells hv] at this
  exact this
theorem wp_build_vals {o : Oper} {a : Act} {W : World} {K : Act → World → Prop} {Q : Exit → Act → World → Prop} {ts : TypeId} {n : Nat} {ps : Array (Nat × Operand)} (ho : o.op = .buildSlice ts n ps) {e : TypeId} {bytes : Nat} (he : ElemIs e 1 bytes) (ht : Tryd.prog.underlying ts = some (.slice e)) (vs : List Value) (hv : ∀ v ∈ vs, v.cells = #[v]) (h0 : 0 < vs.length) (h16 : vs.length ≤ 256) (hn : n = vs.length)
    (hp : ps.map (fun x => (x.1, a.eval x.2)) = ((vs.zipIdx 0).map fun x => (x.2, x.1)).toArray)
    (h : K (a.put o.dst (.slice (some ⟨W.heap.size, 0, none⟩) n n)) (W.alloc (.cells vs.toArray e))) : o.wp Tryd.prog a W K Q := by
  subst hn
  have hr := run_build_vals he ht vs hv h0 h16 W
  rw [← hp] at hr
  unfold Oper.wp execOp
  simp only [ho, Sem.run_bind, hr, Result.andThen_ok, Sem.run_pure]
  exact h
theorem wpList_build_vals (ts : TypeId) (n : Nat) {ps : Array (Nat × Operand)} {ops : Array Oper} {rest : List Oper} {a : Act} {W : World} {Q : Exit → Act → World → Prop} {d : Option Tmp} {ty : TypeId} {pos : String} {aft : Array Edge} {e : TypeId} {bytes : Nat} (he : ElemIs e 1 bytes) (ht : Tryd.prog.underlying ts = some (.slice e)) (vs : List Value) (hv : ∀ v ∈ vs, v.cells = #[v]) (h0 : 0 < vs.length) (h16 : vs.length ≤ 256) (hn : n = vs.length)
    (hp : ps.map (fun x => (x.1, a.eval x.2)) = ((vs.zipIdx 0).map fun x => (x.2, x.1)).toArray)
    (h : wpList Tryd.prog ops Q rest (a.put d (.slice (some ⟨W.heap.size, 0, none⟩) n n)) (W.alloc (.cells vs.toArray e))) :
    wpList Tryd.prog ops Q ({ dst := d, op := .buildSlice ts n ps, type := ty, pos := pos, after := aft, guard := none } :: rest) a W :=
  wpList_plain rfl fun _ hK => wp_build_vals rfl he ht vs hv h0 h16 hn hp (hK _ _ h)
end Go.Proofs.YtpmfdpkcnldpiaaDoor
/- a slice that reads as these cells; what reads is appended to a slice of the walk's own -/
namespace Go.Proofs.YtpmfdpkcnldpiaaDoor
open Go.RowKit
set_option maxRecDepth 20000

/-- a slice that reads as these cells -/
def SlRd (v : Value) (z n : Nat) (xs : List Value) (R : List Rng) : Prop :=
  ∃ a cap, v = .slice a n cap ∧ xs.length = n * z ∧ n ≤ cap ∧ cap ≤ maxLen ∧ (0 < n → ∃ g off, a = some ⟨g, off, none⟩ ∧ (g, off, xs) ∈ R) ∧ (a = none → cap = 0)
theorem SlRd.mono {v : Value} {z n : Nat} {xs : List Value} {R S : List Rng} (h : SlRd v z n xs R) (hs : ∀ r ∈ R, r ∈ S) : SlRd v z n xs S := by
  obtain ⟨a, cap, h1, h2, h3, h4, h5, h8⟩ := h
  refine ⟨a, cap, h1, h2, h3, h4, fun h => ?_, h8⟩
  obtain ⟨g, off, h6, h7⟩ := h5 h
  exact ⟨g, off, h6, hs _ h7⟩
theorem SlRd.nil (z : Nat) (R : List Rng) : SlRd (.slice none 0 0) z 0 [] R := ⟨none, 0, rfl, by simp, Nat.le_refl _, Nat.zero_le _, fun h => absurd h (by decide), fun _ => rfl⟩
/-- a slice of the walk's own, handed out, reads -/
theorem own_reads {B : Nat} {W : World} {e : TypeId} {z n : Nat} {v : Value} {xs : List Value} (h : W.ownsRow B e z v n xs) : ∃ R, SlRd v z n xs R ∧ RdIn W R ∧ (∀ r ∈ R, B ≤ r.1 ∧ v.ownBlock = some r.1) := by
  have hl := h.1
  rcases h.2 with ⟨hv, h0⟩ | ⟨g, cap, cur, hv, hB, hg, h1, h2, h3⟩
  · subst h0
    have : xs = [] := List.eq_nil_of_length_eq_zero (by rw [hl]; omega)
    subst this
    exact ⟨[], by rw [hv]; exact SlRd.nil z [], RdIn.nil W, by simp⟩
  · have hr : W.rangeAt g 0 xs := own_range h hv 0 xs (fun j u hu => by rw [Nat.zero_add]; exact hu)
    refine ⟨[(g, 0, xs)], ⟨_, cap, hv, hl, h1, h2, fun _ => ⟨g, 0, rfl, List.mem_singleton.2 rfl⟩, fun h => by cases h⟩, fun r hr' => ?_, fun r hr' => ?_⟩
    · obtain rfl := List.mem_singleton.1 hr'
      exact ⟨(Array.getElem?_eq_some_iff.1 hg).1, hr⟩
    · obtain rfl := List.mem_singleton.1 hr'
      exact ⟨hB, by rw [hv]; rfl⟩
/-- what reads is appended to a slice of the walk's own -/
theorem Hp.appendSl {w W : World} {L : List Th} (h : Hp w L W) (i : Nat) {v : Value} {e : TypeId} {z n : Nat} {xs : List Value} (ei : L[i]? = some (.sl v e z n xs)) {x : Value} {m : Nat} {ys : List Value} {R : List Rng} (hx : SlRd x z m ys R) (hR : RdIn W R)
    (ts : TypeId) (ty : TypeId) {bytes : Nat} (ht : Tryd.prog.underlying ts = some (.slice e)) (he : ElemIs e z bytes) (h1 : ∀ u ∈ ys, u.oneCell' = true) (hn : n + m ≤ 1048576) :
    ∃ v' W', (Builtin.append_ #[ts, ts] ty #[v, x]).run Tryd.prog W = .ok v' W' ∧ Hp w (L.set i (.sl v' e z (n + m) (xs ++ ys))) W' := by
  obtain ⟨inf, zv, hi, hz, hsize, hby, hzs⟩ := he.is
  have hroom := he.room
  obtain ⟨a, cap, rfl, hl, hmc, hcm, hg, h0⟩ := hx
  cases a with
  | none =>
    have hc := h0 rfl
    have hm : m = 0 := by omega
    subst hc hm
    have hys : ys = [] := List.eq_nil_of_length_eq_zero (by rw [hl]; omega)
    subst hys
    refine ⟨v, W, run_append_owned_none (P := Tryd.prog) W w.heap.size ts ty e inf z ht hi v n xs (h.own i ei), ?_⟩
    rw [List.append_nil, Nat.add_zero]
    have : L.set i (.sl v e z n xs) = L := by
      apply List.ext_getElem?
      intro j
      rw [List.getElem?_set]
      split
      · next hij =>
        subst hij
        rw [ei]
        split
        · rfl
        · next hlt => rw [List.getElem?_eq_none (by omega)] at ei; cases ei
      · rfl
    rw [this]
    exact h
  | some a =>
    have hcell : ∀ q u, ys[q]? = some u → W.cell? (a.add q) = some u := fun q u hu => by
      have hq := (List.getElem?_eq_some_iff.1 hu).1
      have hm : 0 < m := by
        rcases Nat.eq_zero_or_pos m with h | h
        · rw [h, Nat.zero_mul] at hl; omega
        · exact h
      obtain ⟨g, off, ha, hmem⟩ := hg hm
      obtain rfl := Option.some.inj ha
      rw [Addr.add_mid]
      exact (hR _ hmem).2 q u hu
    obtain ⟨v', W', hr, h2, h3, h4, h5⟩ := run_append_own_at (P := Tryd.prog) W w.heap.size ts ty e inf zv z bytes ht hi hz hsize hby hzs he.pos v n xs (h.own i ei) a m cap ys hl hcell h1 (by unfold maxLen; omega) (by
      have := Nat.mul_le_mul hn hroom
      omega) h.old.size
    exact ⟨v', W', hr, h.grown i ei h2 h3 h5⟩
theorem wp_append_sl {o : Oper} {a : Act} {w W : World} {K : Act → World → Prop} {Q : Exit → Act → World → Prop} {L : List Th} (h : Hp w L W) (s x : Operand) (ts : TypeId) (ho : o.op = .call { callee := .builtin .append, args := #[s, x], argTypes := #[ts, ts] })
    (i : Nat) {v : Value} {e : TypeId} {z n : Nat} {xs : List Value} (ei : L[i]? = some (.sl v e z n xs)) {xv : Value} {m : Nat} {ys : List Value} {R : List Rng} (hxv : SlRd xv z m ys R) (hR : RdIn W R) {bytes : Nat} (ht : Tryd.prog.underlying ts = some (.slice e)) (he : ElemIs e z bytes)
    (hs : a.eval s = v) (hx : a.eval x = xv) (h1 : ∀ u ∈ ys, u.oneCell' = true) (hn : n + m ≤ 1048576)
    (hk : ∀ v' W', Hp w (L.set i (.sl v' e z (n + m) (xs ++ ys))) W' → K (a.put o.dst v') W') : o.wp Tryd.prog a W K Q := by
  obtain ⟨v', W', hr, h2⟩ := h.appendSl i ei hxv hR ts o.type ht he h1 hn
  unfold Oper.wp execOp
  simp only [ho, resolve, invoke, builtin, Sem.run_bind, Sem.run_pure, Result.andThen_ok, List.map_toArray, List.map_cons, List.map_nil, hs, hx, hr]
  exact hk v' W' h2
theorem wpList_append_sl {ops : Array Oper} {rest : List Oper} {a : Act} {w W : World} {Q : Exit → Act → World → Prop} {d : Option Tmp} {ty : TypeId} {pos : String} {aft : Array Edge} {L : List Th} (h : Hp w L W) (s x : Operand) (ts : TypeId)
    (i : Nat) {v : Value} {e : TypeId} {z n : Nat} {xs : List Value} (ei : L[i]? = some (.sl v e z n xs)) {xv : Value} {m : Nat} {ys : List Value} {R : List Rng} (hxv : SlRd xv z m ys R) (hR : RdIn W R) {bytes : Nat} (ht : Tryd.prog.underlying ts = some (.slice e)) (he : ElemIs e z bytes)
    (hs : a.eval s = v) (hx : a.eval x = xv) (h1 : ∀ u ∈ ys, u.oneCell' = true) (hn : n + m ≤ 1048576)
    (hk : ∀ v' W', Hp w (L.set i (.sl v' e z (n + m) (xs ++ ys))) W' → wpList Tryd.prog ops Q rest (a.put d v') W') :
    wpList Tryd.prog ops Q ({ dst := d, op := .call { callee := .builtin .append, args := #[s, x], argTypes := #[ts, ts] }, type := ty, pos := pos, after := aft, guard := none } :: rest) a W :=
  wpList_plain rfl fun _ hK => wp_append_sl h s x ts rfl i ei hxv hR ht he hs hx h1 hn (fun v' W' p => hK _ _ (hk v' W' p))
theorem SlRd.open {v : Value} {z n : Nat} {xs : List Value} {R : List Rng} (h : SlRd v z n xs R) {w : World} (hR : RdIn w R) :
    ∃ a cap, v = .slice a n cap ∧ n ≤ cap ∧ cap ≤ maxLen ∧ Hid (0 < n → ∃ g off, a = some ⟨g, off, none⟩ ∧ ∀ W, Below w.heap.size w W → W.rangeAt g off xs) := by
  obtain ⟨a, cap, h1, h2, h3, h4, h5, _⟩ := h
  refine ⟨a, cap, h1, h3, h4, fun h0 => ?_⟩
  obtain ⟨g, off, h6, h7⟩ := h5 h0
  refine ⟨g, off, h6, fun W hb => ?_⟩
  exact (hR.below hb _ h7).2
theorem all_take {α : Type} {l : List α} {f : α → Bool} {k : Nat} (h : k < l.length) (ha : (l.take k).all f = true) (hx : f l[k] = true) : (l.take (k + 1)).all f = true := by
  rw [List.take_succ_eq_append_getElem h, List.all_append, ha]
  simp [hx]
theorem all_no {α : Type} {l : List α} {f : α → Bool} {k : Nat} (h : k < l.length) (hx : f l[k] = false) : l.all f = false := all_false (List.getElem_mem h) hx
theorem range_take {k : Nat} {f : Nat → Bool} (ha : (List.range k).all f = true) (hx : f k = true) : (List.range (k + 1)).all f = true := by
  rw [List.range_succ, List.all_append, ha]
  simp [hx]
theorem range_no {n k : Nat} {f : Nat → Bool} (h : k < n) (hx : f k = false) : (List.range n).all f = false := all_false (List.mem_range.2 h) hx
theorem elem_of {t : TypeId} {z : Value} {s b : Nat} (h : (Tryd.prog.info? t).map (fun i => (i.zero, i.size, i.bytes)) = some (some z, s, b)) (hz : z.cells.size = s) (h1 : 0 < s) (h2 : s ≤ 65536) (h3 : b ≤ 65536) : ElemIs t s b := by
  obtain ⟨i, e1, e2, e3, e4⟩ := info_of h
  exact ⟨⟨i, z, e1, e2, e3, e4, hz⟩, h1, h2, h3⟩
theorem elem_i : ElemIs 3 1 8 := elem_of (z := .int .i64 0) (by kernel_rfl) rfl (by decide) (by decide) (by decide)
theorem elem_s : ElemIs 9 1 16 := elem_of (z := .string ⟨#[]⟩) (by kernel_rfl) rfl (by decide) (by decide) (by decide)
theorem own_slice {B : Nat} {W : World} {e : TypeId} {z n : Nat} {v : Value} {xs : List Value} (h : W.ownsRow B e z v n xs) : ∃ a c, v = .slice a n c := by
  rcases h.2 with ⟨rfl, h0⟩ | ⟨g, cap, cur, rfl, _⟩
  · exact ⟨none, 0, by rw [h0]⟩
  · exact ⟨_, _, rfl⟩
end Go.Proofs.YtpmfdpkcnldpiaaDoor
/- logs as values, and what the functions of chapter 6 answer -/
namespace Go.Proofs.YtpmfdpkcnldpiaaDoor
open Go.RowKit
set_option maxRecDepth 20000

structure Lg where
  first : Int
  ents : List Ent
  dur : Int
def entRow (l : List Ent) : List Value := l.flatMap enCells
def lgCells (v : Value) (L : Lg) : List Value := [.int .i64 L.first, v, .int .i64 L.dur]
def lgNil : Lg := ⟨0, [], 0⟩
abbrev nilSl : Value := .slice none 0 0
def LgRd (v : Value) (L : Lg) (R : List Rng) : Prop := SlRd v 13 L.ents.length (entRow L.ents) R
/-- a log that a value of the program can be, not too long -/
structure GoodLg (L : Lg) : Prop where
  first : (Lit.int .i64 L.first).wf = true
  dur : (Lit.int .i64 L.dur).wf = true
  ents : ∀ e ∈ L.ents, GoodEn e
  few : L.ents.length ≤ 100000
theorem lgCells_length (v : Value) (L : Lg) : (lgCells v L).length = 3 := rfl
theorem oneCell_lg (a : Option Addr) (n c : Nat) (L : Lg) : ((lgCells (.slice a n c) L).toArray).all (·.oneCell') = true := by kernel_rfl
theorem info_lg : (Tryd.prog.info? 25).map (·.size) = some 3 := by kernel_rfl
theorem under_lg : ∃ fs, Tryd.prog.underlying 25 = some (.struct fs) := ⟨_, Tryd.underlying25⟩
theorem alloc_lg (w : World) : Sem.run Tryd.prog (Instr.alloc 25 true (.tuple #[])) w = .ok (.pointer (some ⟨w.heap.size, 0, none⟩)) (w.alloc (.cells (lgCells nilSl lgNil).toArray 25)) := by kernel_rfl
theorem build_lg0 (W : World) : Sem.run Tryd.prog (Instr.build 25 #[]) W = .ok (.agg (lgCells nilSl lgNil).toArray) W := by kernel_rfl
theorem build_lg1 (W : World) : Sem.run Tryd.prog (Instr.build 25 #[(0, .int .i64 1)]) W = .ok (.agg (lgCells nilSl ⟨1, [], 0⟩).toArray) W := by kernel_rfl
theorem entRow_length (l : List Ent) : (entRow l).length = l.length * 13 := by
  induction l with
  | nil => rfl
  | cons e l ih => unfold entRow at ih ⊢; rw [List.flatMap_cons, List.length_append, ih, enCells_length, List.length_cons]; omega
theorem entRow_at : ∀ (l : List Ent) (k : Nat) (e : Ent), l[k]? = some e → ∀ j v, (enCells e)[j]? = some v → (entRow l)[k * 13 + j]? = some v
  | [], k, e, h => by simp at h
  | x :: l, 0, e, h => by
    obtain rfl : x = e := by simpa using h
    intro j v hv
    unfold entRow
    rw [List.flatMap_cons, Nat.zero_mul, Nat.zero_add, List.getElem?_append_left (List.getElem?_eq_some_iff.1 hv).1]
    exact hv
  | x :: l, k + 1, e, h => by
    intro j v hv
    unfold entRow
    rw [List.flatMap_cons, show (k + 1) * 13 + j = 13 + (k * 13 + j) from by omega, List.getElem?_append_right (by rw [enCells_length]; omega), enCells_length, Nat.add_sub_cancel_left]
    exact entRow_at l k e (by simpa using h) j v hv
theorem entRow_append (a b : List Ent) : entRow (a ++ b) = entRow a ++ entRow b := by unfold entRow; rw [List.flatMap_append]
theorem entRow_one (e : Ent) : entRow [e] = enCells e := by unfold entRow; rw [List.flatMap_cons, List.flatMap_nil, List.append_nil]
theorem one_en (e : Ent) : ∀ u ∈ enCells e, u.oneCell' = true := by
  intro u hu
  simp only [enCells, List.mem_cons, List.not_mem_nil, or_false] at hu
  rcases hu with rfl | rfl | rfl | rfl | rfl | rfl | rfl | rfl | rfl | rfl | rfl | rfl | rfl <;> rfl
theorem one_ents (l : List Ent) : ∀ u ∈ entRow l, u.oneCell' = true := by
  intro u hu
  obtain ⟨e, _, he⟩ := List.mem_flatMap.1 hu
  exact one_en e u he
theorem entRow_drop (l : List Ent) (k : Nat) : entRow (l.drop k) = (entRow l).drop (k * 13) := by
  induction k generalizing l with
  | zero => simp
  | succ k ih =>
    cases l with
    | nil => simp [entRow]
    | cons x l =>
      rw [List.drop_succ_cons, ih]
      unfold entRow
      rw [List.flatMap_cons, show (k + 1) * 13 = (enCells x).length + k * 13 from by rw [enCells_length]; omega, List.drop_append]
      simp
/-! what the functions answer -/
def firstB (n : Int) : Bool := decide (1 ≤ n) && decide (n ≤ 1099511627776)
noncomputable def ordAtB (f : Int) (l : List Ent) (i : Nat) : Bool := decide ((l.getD i enNil).lsn = f + i) && entOkB (l.getD i enNil)
noncomputable def ordB (f : Int) (l : List Ent) : Bool := (List.range l.length).all (ordAtB f l)
def endI (L : Lg) : Int := L.first + (L.ents.length : Int) - 1
noncomputable def lgOkB (L : Lg) : Bool := firstB L.first && (decide ((L.ents.length : Int) ≤ 4096) && (ordB L.first L.ents && (decide (L.first - 1 ≤ L.dur) && decide (L.dur ≤ endI L))))
noncomputable def lastR (L : Lg) : Int := if lgOkB L = false then 0 else endI L
def stamp (e : Ent) (n : Int) : Ent := ⟨n, e.kind, e.tx, e.ptx, e.ppg, e.ref, e.ch, e.blob⟩
noncomputable def appendR (L : Lg) (e : Ent) : Lg × Int × Int :=
  if lgOkB L = false then (lgNil, 0, 26)
  else if L.ents.length = 4096 ∨ 1099511627776 < endI L + 1 then (lgNil, 0, 21)
  else if entOkB (stamp e (endI L + 1)) = false then (lgNil, 0, 12)
  else (⟨L.first, L.ents ++ [stamp e (endI L + 1)], L.dur⟩, endI L + 1, 0)
noncomputable def forceR (L : Lg) (n : Int) : Lg × Int :=
  if lgOkB L = false then (lgNil, 26) else if endI L < n then (lgNil, 14) else (⟨L.first, L.ents, max L.dur n⟩, 0)
noncomputable def lgetR (L : Lg) (n : Int) : Ent × Int :=
  if lgOkB L = false then (enNil, 26) else if n < L.first ∨ endI L < n then (enNil, 14) else (L.ents.getD (n - L.first).toNat enNil, 0)
noncomputable def cutR (L : Lg) (n : Int) : Lg × Int :=
  if lgOkB L = false then (lgNil, 26)
  else if n < L.first ∨ endI L + 1 < n ∨ 1099511627776 < n then (lgNil, 1)
  else if L.dur < n - 1 then (lgNil, 15)
  else (⟨n, L.ents.drop (n - L.first).toNat, L.dur⟩, 0)
structure LgIn (L : Lg) : Prop where
  first : 1 ≤ L.first ∧ L.first ≤ 1099511627776
  few : L.ents.length ≤ 4096
  ord : ∀ i (h : i < L.ents.length), (L.ents[i]).lsn = L.first + i ∧ entOkB (L.ents[i]) = true
  dur : L.first - 1 ≤ L.dur ∧ L.dur ≤ endI L
theorem getD_ent {l : List Ent} {i : Nat} (h : i < l.length) : l.getD i enNil = l[i] := by rw [List.getD_eq_getElem?_getD, List.getElem?_eq_getElem h]; rfl
theorem ord_iff {f : Int} {l : List Ent} : ordB f l = true ↔ ∀ i (h : i < l.length), (l[i]).lsn = f + i ∧ entOkB (l[i]) = true := by
  unfold ordB
  rw [List.all_eq_true]
  constructor
  · intro h i hi
    have := h i (List.mem_range.2 hi)
    unfold ordAtB at this
    rw [getD_ent hi] at this
    simpa using this
  · intro h i hi
    have hi := List.mem_range.1 hi
    have := h i hi
    unfold ordAtB
    rw [getD_ent hi]
    simpa using this
theorem lg_in {L : Lg} (h : lgOkB L = true) : LgIn L := by
  unfold lgOkB firstB at h
  simp only [Bool.and_eq_true, decide_eq_true_eq] at h
  exact ⟨h.1, by omega, ord_iff.1 h.2.2.1, h.2.2.2⟩
theorem LgIn.ok {L : Lg} (h : LgIn L) : lgOkB L = true := by
  unfold lgOkB firstB
  simp only [Bool.and_eq_true, decide_eq_true_eq]
  exact ⟨h.first, by have := h.few; omega, ord_iff.2 h.ord, h.dur⟩
/-! what a call hands back -/
def LgPost (w : World) (R0 : List Rng) (x : Lg × Int) (e : Ending) (w' : World) : Prop :=
  ∃ v R, e = .returned (.tuple #[.agg (lgCells v x.1).toArray, .int .i64 x.2]) ∧ LgRd v x.1 R ∧ RdIn w' R ∧ (∀ r ∈ R, w.heap.size ≤ r.1 ∨ r.1 ∈ R0.map (·.1)) ∧ Below w.heap.size w w'
def LgPost3 (w : World) (R0 : List Rng) (x : Lg × Int × Int) (e : Ending) (w' : World) : Prop :=
  ∃ v R, e = .returned (.tuple #[.agg (lgCells v x.1).toArray, .int .i64 x.2.1, .int .i64 x.2.2]) ∧ LgRd v x.1 R ∧ RdIn w' R ∧ (∀ r ∈ R, w.heap.size ≤ r.1 ∨ r.1 ∈ R0.map (·.1)) ∧ Below w.heap.size w w'
theorem LgPost.none {w w' : World} {R0 : List Rng} {x : Lg × Int} {n : Int} (hx : x = (lgNil, n)) (hb : Below w.heap.size w w') : LgPost w R0 x (.returned (.tuple #[.agg (lgCells nilSl lgNil).toArray, .int .i64 n])) w' := by
  subst hx
  exact ⟨_, [], rfl, SlRd.nil _ _, RdIn.nil _, by simp, hb⟩
theorem LgPost3.none {w w' : World} {R0 : List Rng} {x : Lg × Int × Int} {n : Int} (hx : x = (lgNil, 0, n)) (hb : Below w.heap.size w w') : LgPost3 w R0 x (.returned (.tuple #[.agg (lgCells nilSl lgNil).toArray, .int .i64 0, .int .i64 n])) w' := by
  subst hx
  exact ⟨_, [], rfl, SlRd.nil _ _, RdIn.nil _, by simp, hb⟩
theorem lg_as {f : FuncId} {args : Array Value} {w w1 : World} {R : List Rng} {x y : Lg × Int} (h : x = y) (c : Calls Tryd.prog f args w (LgPost w1 R x)) : Calls Tryd.prog f args w (LgPost w1 R y) := h ▸ c
theorem lg_as3 {f : FuncId} {args : Array Value} {w w1 : World} {R : List Rng} {x y : Lg × Int × Int} (h : x = y) (c : Calls Tryd.prog f args w (LgPost3 w1 R x)) : Calls Tryd.prog f args w (LgPost3 w1 R y) := h ▸ c
end Go.Proofs.YtpmfdpkcnldpiaaDoor
/- the walk of the reference's check of a cell -/
namespace Go.Proofs.YtpmfdpkcnldpiaaDoor
open Go.RowKit

end Go.Proofs.YtpmfdpkcnldpiaaDoor
/- the walks of Valid of changes, the program's and the reference's -/
namespace Go.Proofs.YtpmfdpkcnldpiaaDoor
open Go.RowKit

set_option maxHeartbeats 400000 in
theorem validPage_any (n : Int) (w : World) : Calls Tryd.prog 42 #[.int .i64 n] w fun e w' => e = .returned (.bool (decide (0 ≤ n) && decide (n < 64))) ∧ w = w' := by
  by_cases h0 : 0 ≤ n
  · by_cases h1 : n < 64
    all_goals
      go_enter Tryd.func42, Tryd.ntmps42
      go_wp2
      go_ret
      exact ⟨ret_bool (by simp; omega), rfl⟩
  · go_enter Tryd.func42, Tryd.ntmps42
    go_wp2
    go_ret
    exact ⟨ret_bool (by simp; omega), rfl⟩
set_option maxHeartbeats 400000 in
theorem validSlot_any (n : Int) (w : World) : Calls Tryd.prog 43 #[.int .i64 n] w fun e w' => e = .returned (.bool (decide (0 ≤ n) && decide (n < 16))) ∧ w = w' := by
  by_cases h0 : 0 ≤ n
  · by_cases h1 : n < 16
    all_goals
      go_enter Tryd.func43, Tryd.ntmps43
      go_wp2
      go_ret
      exact ⟨ret_bool (by simp; omega), rfl⟩
  · go_enter Tryd.func43, Tryd.ntmps43
    go_wp2
    go_ret
    exact ⟨ret_bool (by simp; omega), rfl⟩
set_option maxHeartbeats 400000 in
theorem chCell_any (st : Bool) (d : ByteArray) (w : World) (hs : d.size ≤ maxLen) :
    Calls Tryd.prog 44 #[.agg #[.bool st, .string d]] w fun e w' => e = .returned (.bool (cellOkB ⟨st, d⟩)) ∧ Below w.heap.size w w' := by
  unfold maxLen at hs
  unfold cellOkB
  simp only
  have fin : Below w.heap.size w (w.alloc (.cells #[.bool st, .string d] 27)) := (Below.refl _ _).alloc (Nat.le_refl _) _
  cases st
  · have hd : d.toList.isEmpty = decide (d.size = 0) := by
      rw [ByteArray.toList_eq, Bool.eq_iff_iff, List.isEmpty_iff, decide_eq_true_iff, ← size_list]
      exact List.length_eq_zero_iff.symm
    cases h0 : decide (d.size = 0)
    all_goals
      rw [h0] at hd
      go_enter Tryd.func44, Tryd.ntmps44
      go_wp2
      go_ret
      refine ⟨ret_bool ?_, fin⟩
      first | (simp; done) | (have := of_decide_eq_true h0; simp [this]; done)
  · go_enter Tryd.func44, Tryd.ntmps44
    go_wp2
    go_ret
    refine ⟨ret_bool ?_, fin⟩
    simp
    omega
set_option maxHeartbeats 1000000 in
theorem valid_ch (c : Chg) (w : World) (hb : c.before.data.size ≤ maxLen) (ha : c.after.data.size ≤ maxLen) :
    Calls Tryd.prog 34 #[.agg (chCells c).toArray] w fun e w' => e = .returned (.bool (chOkB c)) ∧ Below w.heap.size w w' := by
  obtain ⟨pg, sl, ⟨ys, yd⟩, ⟨zs, zd⟩⟩ := c
  have HO : Hid (Ob.In ⟨w.heap.size, 29, chCells ⟨pg, sl, ⟨ys, yd⟩, ⟨zs, zd⟩⟩⟩ (w.alloc (.cells #[.int .i64 pg, .int .i64 sl, .bool ys, .string yd, .bool zs, .string zd] 29))) := heap_alloc_last w _
  have HB : Hid (Below w.heap.size w (w.alloc (.cells #[.int .i64 pg, .int .i64 sl, .bool ys, .string yd, .bool zs, .string zd] 29))) := (Below.refl _ _).alloc (Nat.le_refl _) _
  have hz : w.heap.size < (w.alloc (.cells #[.int .i64 pg, .int .i64 sl, .bool ys, .string yd, .bool zs, .string zd] 29)).heap.size := by simp
  have HZ := Lib.hid hz
  clear hz
  unfold chCells chOkB
  simp only at hb ha ⊢
  cases hp : (decide (0 ≤ pg) && decide (pg < 64))
  · go_enter Tryd.func34, Tryd.ntmps34
    go_wp2_with (go_at_call 42; refine (validPage_any _ _).mono ?_; rintro e w' ⟨rfl, rfl⟩)
    go_ret
    exact ⟨ret_bool (by rw [← Bool.and_assoc, hp]; rfl), HB.out⟩
  cases hq : (decide (0 ≤ sl) && decide (sl < 16))
  · go_enter Tryd.func34, Tryd.ntmps34
    go_wp2_with (first | (go_at_call 42; refine (validPage_any _ _).mono ?_; rintro e w' ⟨rfl, rfl⟩) | (go_at_call 43; refine (validSlot_any _ _).mono ?_; rintro e w' ⟨rfl, rfl⟩))
    go_ret
    exact ⟨ret_bool (by rw [← Bool.and_assoc, hp, ← Bool.and_assoc (decide (0 ≤ sl)), hq]; rfl), HB.out⟩
  · go_enter Tryd.func34, Tryd.ntmps34
    go_wp2_with (first | (go_at_call 42; refine (validPage_any _ _).mono ?_; rintro e w' ⟨rfl, rfl⟩) | (go_at_call 43; refine (validSlot_any _ _).mono ?_; rintro e w' ⟨rfl, rfl⟩))
    refine (chCell_any ys yd _ hb).mono ?_
    rintro e w2 ⟨rfl, hb2⟩
    have HO2 := Lib.hid (HO.out.calls hb2)
    have HB2 := Lib.hid (HB.out.trans (hb2.mono (Nat.le_of_lt HZ.out)))
    have c4 : w2.cell? ⟨w.heap.size, 4, none⟩ = some (.bool zs) := HO2.out.at 4 rfl
    have c5 : w2.cell? ⟨w.heap.size, 5, none⟩ = some (.string zd) := HO2.out.at 5 rfl
    clear hb2
    cases hv : cellOkB ⟨ys, yd⟩
    · go_wp2_with fail
      go_ret
      exact ⟨ret_bool (by rw [← Bool.and_assoc, hp, ← Bool.and_assoc (decide (0 ≤ sl)), hq, hv]; rfl), HB2.out⟩
    · go_wp2_with fail
      refine (chCell_any zs zd _ ha).mono ?_
      rintro e w3 ⟨rfl, hb3⟩
      have HB3 := Lib.hid (HB2.out.trans (hb3.mono HB2.out.size))
      clear hb3
      cases hy : cellOkB ⟨zs, zd⟩
      all_goals
        go_wp2_with fail
        go_ret
        exact ⟨ret_bool (by rw [← Bool.and_assoc, hp, ← Bool.and_assoc (decide (0 ≤ sl)), hq, hv, hy]; rfl), HB3.out⟩
end Go.Proofs.YtpmfdpkcnldpiaaDoor
/- the walks of the functions that a rule of entries is made of -/
namespace Go.Proofs.YtpmfdpkcnldpiaaDoor
open Go.RowKit
set_option maxRecDepth 20000
set_option linter.unusedSimpArgs false
set_option linter.unusedVariables false

theorem beq_dec (a b : Int) : (a == b) = decide (a = b) := by rw [Bool.eq_iff_iff]; simp
theorem isEmpty_dec (s : ByteArray) : s.toList.isEmpty = decide (s.size = 0) := by
  rw [ByteArray.toList_eq, Bool.eq_iff_iff, List.isEmpty_iff, decide_eq_true_iff, ← size_list]
  exact List.length_eq_zero_iff.symm
set_option maxHeartbeats 400000 in
theorem zero_f (n : Int) (w : World) : Calls Tryd.prog 28 #[.int .i64 n] w fun e w' => e = .returned (.bool (zeroB n)) ∧ w = w' := by
  go_enter Tryd.func28, Tryd.ntmps28
  go_wp2
  go_ret
  exact ⟨ret_bool (by first | rfl | exact beq_dec _ _ | simp [zeroB]), rfl⟩
set_option maxHeartbeats 400000 in
theorem positive_f (n : Int) (w : World) : Calls Tryd.prog 27 #[.int .i64 n] w fun e w' => e = .returned (.bool (posB n)) ∧ w = w' := by
  go_enter Tryd.func27, Tryd.ntmps27
  go_wp2
  go_ret
  exact ⟨ret_bool (by first | rfl | simp [posB]), rfl⟩
set_option maxHeartbeats 400000 in
theorem anyNumber_f (n : Int) (w : World) : Calls Tryd.prog 33 #[.int .i64 n] w fun e w' => e = .returned (.bool (anyB n)) ∧ w = w' := by
  go_enter Tryd.func33, Tryd.ntmps33
  go_wp2
  go_ret
  exact ⟨ret_bool (by rfl), rfl⟩
set_option maxHeartbeats 400000 in
theorem isTx_f (n : Int) (w : World) : Calls Tryd.prog 26 #[.int .i64 n] w fun e w' => e = .returned (.bool (isTxB n)) ∧ w = w' := by
  by_cases h0 : 1 ≤ n
  · by_cases h1 : n ≤ 1073741824
    all_goals
      go_enter Tryd.func26, Tryd.ntmps26
      go_wp2
      go_ret
      exact ⟨ret_bool (by simp [isTxB]; omega), rfl⟩
  · go_enter Tryd.func26, Tryd.ntmps26
    go_wp2
    go_ret
    exact ⟨ret_bool (by simp [isTxB]; omega), rfl⟩
set_option maxHeartbeats 400000 in
theorem noRef_f (n m : Int) (w : World) : Calls Tryd.prog 29 #[.int .i64 n, .int .i64 m] w fun e w' => e = .returned (.bool (noRefB n m)) ∧ w = w' := by
  go_enter Tryd.func29, Tryd.ntmps29
  go_wp2
  go_ret
  exact ⟨ret_bool (by first | rfl | exact beq_dec _ _ | simp [noRefB]), rfl⟩
set_option maxHeartbeats 400000 in
theorem anyRef_f (n m : Int) (w : World) : Calls Tryd.prog 36 #[.int .i64 n, .int .i64 m] w fun e w' => e = .returned (.bool (anyRefB n m)) ∧ w = w' := by
  go_enter Tryd.func36, Tryd.ntmps36
  go_wp2
  go_ret
  exact ⟨ret_bool (by rfl), rfl⟩
set_option maxHeartbeats 400000 in
theorem upTo_f (n m : Int) (w : World) : Calls Tryd.prog 35 #[.int .i64 n, .int .i64 m] w fun e w' => e = .returned (.bool (upB n m)) ∧ w = w' := by
  by_cases h0 : 1 ≤ n
  · by_cases h1 : n ≤ m
    all_goals
      go_enter Tryd.func35, Tryd.ntmps35
      go_wp2
      go_ret
      exact ⟨ret_bool (by simp [upB]; omega), rfl⟩
  · go_enter Tryd.func35, Tryd.ntmps35
    go_wp2
    go_ret
    exact ⟨ret_bool (by simp [upB]; omega), rfl⟩
set_option maxHeartbeats 400000 in
theorem before_f (n m : Int) (w : World) : Calls Tryd.prog 20 #[.int .i64 n, .int .i64 m] w fun e w' => e = .returned (.bool (befB n m)) ∧ w = w' := by
  by_cases h0 : 0 ≤ n
  · by_cases h1 : n < m
    all_goals
      go_enter Tryd.func20, Tryd.ntmps20
      go_wp2
      go_ret
      exact ⟨ret_bool (by simp [befB]; omega), rfl⟩
  · go_enter Tryd.func20, Tryd.ntmps20
    go_wp2
    go_ret
    exact ⟨ret_bool (by simp [befB]; omega), rfl⟩
set_option maxHeartbeats 400000 in
theorem noBlob_f (s : ByteArray) (w : World) (hs : s.size ≤ maxLen) : Calls Tryd.prog 31 #[.string s] w fun e w' => e = .returned (.bool (noBlobB s)) ∧ w = w' := by
  have HQ : Hid (decide (s = ByteArray.empty) = noBlobB s) := Lib.hid (by unfold noBlobB; rw [Bool.eq_iff_iff, decide_eq_true_iff, decide_eq_true_iff, size_zero]; exact Iff.rfl)
  go_enter Tryd.func31, Tryd.ntmps31
  go_wp2
  go_ret
  exact ⟨ret_bool (by first | exact isEmpty_dec s | exact HQ.out), rfl⟩
set_option maxHeartbeats 400000 in
theorem validBlob_f (s : ByteArray) (w : World) (hs : s.size ≤ maxLen) : Calls Tryd.prog 32 #[.string s] w fun e w' => e = .returned (.bool (blobB s)) ∧ w = w' := by
  unfold maxLen at hs
  go_enter Tryd.func32, Tryd.ntmps32
  go_wp2
  go_ret
  exact ⟨ret_bool (by simp [blobB]; omega), rfl⟩
set_option maxHeartbeats 400000 in
theorem noChange_f (c : Chg) (w : World) (hc : GoodCh c) : Calls Tryd.prog 30 #[.agg (chCells c).toArray] w fun e w' => e = .returned (.bool (noChB c)) ∧ Below w.heap.size w w' := by
  have hq : ∀ W, Sem.run Tryd.prog (binOp .eql 29 (.agg #[.int .i64 c.page, .int .i64 c.slot, .bool c.before.set, .string c.before.data, .bool c.after.set, .string c.after.data]) (.agg #[.int .i64 0, .int .i64 0, .bool false, .string ⟨#[]⟩, .bool false, .string ⟨#[]⟩])) W = .ok (.bool (sameV c chNil)) W := fun W => run_eql (equal_ch c chNil hc nil_good) W
  have HB : Hid (Below w.heap.size w (w.alloc (.cells #[.int .i64 c.page, .int .i64 c.slot, .bool c.before.set, .string c.before.data, .bool c.after.set, .string c.after.data] 29))) := (Below.refl _ _).alloc (Nat.le_refl _) _
  clear hc
  unfold chCells noChB
  go_enter Tryd.func30, Tryd.ntmps30
  go_wp2
  go_ret
  exact ⟨rfl, HB.out⟩
set_option maxHeartbeats 1000000 in
theorem pageAlone_f (c : Chg) (w : World) (hc : GoodCh c) : Calls Tryd.prog 37 #[.agg (chCells c).toArray] w fun e w' => e = .returned (.bool (aloneB c)) ∧ Below w.heap.size w w' := by
  have hq : ∀ W, Sem.run Tryd.prog (binOp .eql 29 (.agg #[.int .i64 c.page, .int .i64 c.slot, .bool c.before.set, .string c.before.data, .bool c.after.set, .string c.after.data]) (.agg #[.int .i64 c.page, .int .i64 0, .bool false, .string ⟨#[]⟩, .bool false, .string ⟨#[]⟩])) W = .ok (.bool (sameV c ⟨c.page, 0, emptyCl, emptyCl⟩)) W := fun W => run_eql (equal_ch c ⟨c.page, 0, emptyCl, emptyCl⟩ hc ⟨hc.page, by show (Lit.int .i64 0).wf = true; decide, by show emptyS.size ≤ maxLen; decide, by show emptyS.size ≤ maxLen; decide⟩) W
  have HB : Hid (Below w.heap.size w (w.alloc (.cells #[.int .i64 c.page, .int .i64 c.slot, .bool c.before.set, .string c.before.data, .bool c.after.set, .string c.after.data] 29))) := (Below.refl _ _).alloc (Nat.le_refl _) _
  have HZ := Lib.hid (show w.heap.size < (w.alloc (.cells #[.int .i64 c.page, .int .i64 c.slot, .bool c.before.set, .string c.before.data, .bool c.after.set, .string c.after.data] 29)).heap.size by simp)
  have HV : Hid (∀ W, Calls Tryd.prog 34 #[.agg (chCells c).toArray] W fun e w' => e = .returned (.bool (chOkB c)) ∧ Below W.heap.size W w') := fun W => valid_ch c W hc.before hc.after
  clear hc
  unfold chCells at HV ⊢
  unfold aloneB
  generalize sameV c ⟨c.page, 0, emptyCl, emptyCl⟩ = b at *
  cases b
  · go_enter Tryd.func37, Tryd.ntmps37
    go_wp2
    go_ret
    exact ⟨rfl, HB.out⟩
  · go_enter Tryd.func37, Tryd.ntmps37
    go_wp2_with fail
    refine (HV.out _).mono ?_
    rintro e w2 ⟨rfl, hb⟩
    go_wp2_with fail
    go_ret
    exact ⟨rfl, HB.out.trans (hb.mono (Nat.le_of_lt HZ.out))⟩
/-! Changes -/
def changesB (e : Ent) : Bool := decide (e.kind = 1) || decide (e.kind = 2)
/-! rules -/
def EntersF (g : Nat) : Prop := ∀ args w, (callFunc g args).run Tryd.prog w = .ok (.enter g args) w
structure RuleG where
  g0 : Nat
  g1 : Nat
  g2 : Nat
  g3 : Nat
  g4 : Nat
  g5 : Nat
def fv (g : Nat) : Value := .func (.func g) #[] #[]
def ruleCells (r : RuleG) : List Value := [fv r.g0, fv r.g1, fv r.g2, fv r.g3, fv r.g4, fv r.g5]
/-- what the functions of a rule answer -/
structure RuleIs (r : RuleF) (g : RuleG) : Prop where
  e0 : EntersF g.g0
  e1 : EntersF g.g1
  e2 : EntersF g.g2
  e3 : EntersF g.g3
  e4 : EntersF g.g4
  e5 : EntersF g.g5
  c0 : ∀ n W, Calls Tryd.prog g.g0 #[.int .i64 n] W fun e W' => e = .returned (.bool (r.p0 n)) ∧ W = W'
  c1 : ∀ n W, Calls Tryd.prog g.g1 #[.int .i64 n] W fun e W' => e = .returned (.bool (r.p1 n)) ∧ W = W'
  c2 : ∀ n W, Calls Tryd.prog g.g2 #[.int .i64 n] W fun e W' => e = .returned (.bool (r.p2 n)) ∧ W = W'
  c3 : ∀ n m W, Calls Tryd.prog g.g3 #[.int .i64 n, .int .i64 m] W fun e W' => e = .returned (.bool (r.p3 n m)) ∧ W = W'
  c4 : ∀ c W, GoodCh c → Calls Tryd.prog g.g4 #[.agg (chCells c).toArray] W fun e W' => e = .returned (.bool (r.p4 c)) ∧ Below W.heap.size W W'
  c5 : ∀ s W, s.size ≤ maxLen → Calls Tryd.prog g.g5 #[.string s] W fun e W' => e = .returned (.bool (r.p5 s)) ∧ W = W'
theorem enters_zero : EntersF 28 := enters_of Tryd.func28 (by kernel_rfl) rfl
theorem enters_positive : EntersF 27 := enters_of Tryd.func27 (by kernel_rfl) rfl
theorem enters_anyNumber : EntersF 33 := enters_of Tryd.func33 (by kernel_rfl) rfl
theorem enters_isTx : EntersF 26 := enters_of Tryd.func26 (by kernel_rfl) rfl
theorem enters_noRef : EntersF 29 := enters_of Tryd.func29 (by kernel_rfl) rfl
theorem enters_anyRef : EntersF 36 := enters_of Tryd.func36 (by kernel_rfl) rfl
theorem enters_upToPrevTx : EntersF 35 := enters_of Tryd.func35 (by kernel_rfl) rfl
theorem enters_noChange : EntersF 30 := enters_of Tryd.func30 (by kernel_rfl) rfl
theorem enters_pageAlone : EntersF 37 := enters_of Tryd.func37 (by kernel_rfl) rfl
theorem enters_noBlob : EntersF 31 := enters_of Tryd.func31 (by kernel_rfl) rfl
theorem enters_validBlob : EntersF 32 := enters_of Tryd.func32 (by kernel_rfl) rfl
theorem enters_Valid : EntersF 34 := enters_of Tryd.func34 (by kernel_rfl) rfl
def changeG : RuleG := ⟨26, 33, 33, 29, 34, 31⟩
def undoG : RuleG := ⟨26, 27, 33, 35, 34, 31⟩
def markG : RuleG := ⟨26, 27, 28, 29, 30, 31⟩
def textG : RuleG := ⟨28, 28, 28, 29, 30, 32⟩
def indexG : RuleG := ⟨28, 28, 28, 36, 37, 31⟩
def tabG : List RuleG := [changeG, undoG, markG, markG, markG, textG, indexG, textG]
theorem tab_is (k : Nat) (h1 : 1 ≤ k) (h8 : k ≤ 8) : ∃ g, tabG[k - 1]? = some g ∧ RuleIs (ruleF (k : Int)) g := by
  match k, h1, h8 with
  | 1, _, _ => exact ⟨changeG, rfl, ⟨enters_isTx, enters_anyNumber, enters_anyNumber, enters_noRef, enters_Valid, enters_noBlob, fun n W => isTx_f n W, fun n W => anyNumber_f n W, fun n W => anyNumber_f n W, fun n m W => noRef_f n m W, fun c W h => valid_ch c W h.before h.after, fun s W h => noBlob_f s W h⟩⟩
  | 2, _, _ => exact ⟨undoG, rfl, ⟨enters_isTx, enters_positive, enters_anyNumber, enters_upToPrevTx, enters_Valid, enters_noBlob, fun n W => isTx_f n W, fun n W => positive_f n W, fun n W => anyNumber_f n W, fun n m W => upTo_f n m W, fun c W h => valid_ch c W h.before h.after, fun s W h => noBlob_f s W h⟩⟩
  | 3, _, _ => exact ⟨markG, rfl, ⟨enters_isTx, enters_positive, enters_zero, enters_noRef, enters_noChange, enters_noBlob, fun n W => isTx_f n W, fun n W => positive_f n W, fun n W => zero_f n W, fun n m W => noRef_f n m W, fun c W h => noChange_f c W h, fun s W h => noBlob_f s W h⟩⟩
  | 4, _, _ => exact ⟨markG, rfl, ⟨enters_isTx, enters_positive, enters_zero, enters_noRef, enters_noChange, enters_noBlob, fun n W => isTx_f n W, fun n W => positive_f n W, fun n W => zero_f n W, fun n m W => noRef_f n m W, fun c W h => noChange_f c W h, fun s W h => noBlob_f s W h⟩⟩
  | 5, _, _ => exact ⟨markG, rfl, ⟨enters_isTx, enters_positive, enters_zero, enters_noRef, enters_noChange, enters_noBlob, fun n W => isTx_f n W, fun n W => positive_f n W, fun n W => zero_f n W, fun n m W => noRef_f n m W, fun c W h => noChange_f c W h, fun s W h => noBlob_f s W h⟩⟩
  | 6, _, _ => exact ⟨textG, rfl, ⟨enters_zero, enters_zero, enters_zero, enters_noRef, enters_noChange, enters_validBlob, fun n W => zero_f n W, fun n W => zero_f n W, fun n W => zero_f n W, fun n m W => noRef_f n m W, fun c W h => noChange_f c W h, fun s W h => validBlob_f s W h⟩⟩
  | 7, _, _ => exact ⟨indexG, rfl, ⟨enters_zero, enters_zero, enters_zero, enters_anyRef, enters_pageAlone, enters_noBlob, fun n W => zero_f n W, fun n W => zero_f n W, fun n W => zero_f n W, fun n m W => anyRef_f n m W, fun c W h => pageAlone_f c W h, fun s W h => noBlob_f s W h⟩⟩
  | 8, _, _ => exact ⟨textG, rfl, ⟨enters_zero, enters_zero, enters_zero, enters_noRef, enters_noChange, enters_validBlob, fun n W => zero_f n W, fun n W => zero_f n W, fun n W => zero_f n W, fun n m W => noRef_f n m W, fun c W h => noChange_f c W h, fun s W h => validBlob_f s W h⟩⟩
end Go.Proofs.YtpmfdpkcnldpiaaDoor
/- the walk of the table of rules -/
namespace Go.Proofs.YtpmfdpkcnldpiaaDoor
open Go.RowKit
set_option maxRecDepth 20000
set_option linter.unusedSimpArgs false
set_option linter.unusedVariables false

def nilRule : List Value := [.nilFunc, .nilFunc, .nilFunc, .nilFunc, .nilFunc, .nilFunc]
def tabNil : List Value := (List.replicate 9 nilRule).flatMap id
def tabRows : List (List Value) := nilRule :: tabG.map ruleCells
def tabCells : List Value := tabRows.flatMap id
theorem info_rule : (Tryd.prog.info? 51).map (·.size) = some 6 := by kernel_rfl
theorem one_nil : nilRule.toArray.all (·.oneCell') = true := by kernel_rfl
theorem one_rule (g : RuleG) : (ruleCells g).toArray.all (·.oneCell') = true := by kernel_rfl
theorem one_tab : tabCells.toArray.all (·.oneCell') = true := by kernel_rfl
theorem info_tab : (Tryd.prog.info? 67).map (·.size) = some tabCells.length := by kernel_rfl
theorem len_tab : tabNil.length = tabCells.length := by kernel_rfl
theorem under_rule : ∃ fs, Tryd.prog.underlying 51 = some (.struct fs) := ⟨_, Tryd.underlying51⟩
theorem alloc_rule (w : World) : Sem.run Tryd.prog (Instr.alloc 51 true (.tuple #[])) w = .ok (.pointer (some ⟨w.heap.size, 0, none⟩)) (w.alloc (.cells nilRule.toArray 51)) := by kernel_rfl
theorem alloc_tab (w : World) : Sem.run Tryd.prog (Instr.alloc 67 true (.tuple #[])) w = .ok (.pointer (some ⟨w.heap.size, 0, none⟩)) (w.alloc (.cells tabNil.toArray 67)) := by kernel_rfl
theorem build_tab (W : World) : Sem.run Tryd.prog (Instr.build 67 #[(1, .agg (ruleCells changeG).toArray), (2, .agg (ruleCells undoG).toArray), (3, .agg (ruleCells markG).toArray), (4, .agg (ruleCells markG).toArray), (5, .agg (ruleCells markG).toArray), (6, .agg (ruleCells textG).toArray), (7, .agg (ruleCells indexG).toArray), (8, .agg (ruleCells textG).toArray)]) W = .ok (.agg tabCells.toArray) W := by kernel_rfl
theorem tab_mid {k : Nat} {g : RuleG} (h1 : 1 ≤ k) (hg : tabG[k - 1]? = some g) : ∀ j v, (ruleCells g)[j]? = some v → tabCells[k * 6 + j]? = some v := by
  refine flat_mid (z := 6) tabRows (fun x hx => ?_) k (ruleCells g) ?_
  · rcases List.mem_cons.1 hx with rfl | hx
    · rfl
    · obtain ⟨g, _, rfl⟩ := List.mem_map.1 hx
      rfl
  · obtain ⟨m, rfl⟩ : ∃ m, k = m + 1 := ⟨k - 1, by omega⟩
    rw [Nat.add_sub_cancel] at hg
    unfold tabRows
    rw [List.getElem?_cons_succ, List.getElem?_map, hg]
    rfl
attribute [local irreducible] tabCells tabNil
def RuleYes (k : Int) (w : World) (e : Ending) (w' : World) : Prop := ∃ g, RuleIs (ruleF k) g ∧ e = .returned (.tuple #[.agg (ruleCells g).toArray, .bool true]) ∧ Below w.heap.size w w'
set_option maxHeartbeats 4000000 in
theorem ruleOf_yes (k : Int) (w : World) (hk : kindB k = true) : Calls Tryd.prog 19 #[.int .i64 k] w (RuleYes k w) := by
  have hk' : 1 ≤ k ∧ k ≤ 8 := by unfold kindB at hk; simpa using hk
  obtain ⟨n, rfl⟩ := Int.eq_ofNat_of_zero_le (show 0 ≤ k by omega)
  obtain ⟨g, hg, hr⟩ := tab_is n (by omega) (by omega)
  have HM : Hid (∀ j v, (ruleCells g)[j]? = some v → tabCells[n * 6 + j]? = some v) := tab_mid (by omega) hg
  have HR := Lib.hid hr
  have n1 : 1 ≤ n := by omega
  have n8 : n < 9 := by omega
  clear hk hk' hg hr
  obtain ⟨fsHUR, huHUR⟩ := under_rule
  have HUR := Lib.hid huHUR
  clear huHUR
  have HB7 : Hid (∀ W, Sem.run Tryd.prog (Instr.build 51 #[(0, fv markG.g0), (1, fv markG.g1), (2, fv markG.g2), (3, fv markG.g3), (4, fv markG.g4), (5, fv markG.g5)]) W = .ok (.agg (ruleCells markG).toArray) W) := fun W => by kernel_rfl
  have HB8 : Hid (∀ W, Sem.run Tryd.prog (Instr.build 51 #[(0, fv textG.g0), (1, fv textG.g1), (2, fv textG.g2), (3, fv textG.g3), (4, fv textG.g4), (5, fv textG.g5)]) W = .ok (.agg (ruleCells textG).toArray) W) := fun W => by kernel_rfl
  have HB9 : Hid (∀ W, Sem.run Tryd.prog (Instr.build 51 #[(0, fv changeG.g0), (1, fv changeG.g1), (2, fv changeG.g2), (3, fv changeG.g3), (4, fv changeG.g4), (5, fv changeG.g5)]) W = .ok (.agg (ruleCells changeG).toArray) W) := fun W => by kernel_rfl
  have HB10 : Hid (∀ W, Sem.run Tryd.prog (Instr.build 51 #[(0, fv undoG.g0), (1, fv undoG.g1), (2, fv undoG.g2), (3, fv undoG.g3), (4, fv undoG.g4), (5, fv undoG.g5)]) W = .ok (.agg (ruleCells undoG).toArray) W) := fun W => by kernel_rfl
  have HB15 : Hid (∀ W, Sem.run Tryd.prog (Instr.build 51 #[(0, fv indexG.g0), (1, fv indexG.g1), (2, fv indexG.g2), (3, fv indexG.g3), (4, fv indexG.g4), (5, fv indexG.g5)]) W = .ok (.agg (ruleCells indexG).toArray) W) := fun W => by kernel_rfl
  have HB24 : Hid (∀ W, Sem.run Tryd.prog (Instr.build 51 #[]) W = .ok (.agg nilRule.toArray) W) := fun W => by kernel_rfl
  have h1 := (Hp.start w).put 51 nilRule
  have HS0 : Hid (Hp w [.ob w.heap.size 51 nilRule] (w.alloc (.cells #[.nilFunc, .nilFunc, .nilFunc, .nilFunc, .nilFunc, .nilFunc] 51))) := h1
  clear h1
  go_enter Tryd.func19, Tryd.ntmps19
  go_upto_region 1 with (fail)
  have HS2 : Hid (Hp w [.ob (w.heap.size) 51 (nilRule)] (w.alloc (.cells #[.nilFunc, .nilFunc, .nilFunc, .nilFunc, .nilFunc, .nilFunc] 51))) := HS0.out
  clear HS0
  generalize w.alloc (.cells #[.nilFunc, .nilFunc, .nilFunc, .nilFunc, .nilFunc, .nilFunc] 51) = w3 at *
  go_upto_region 2 with (first | ((with_reducible refine wpList_build_v (d := some 7) 51 (.agg (ruleCells markG).toArray) ?_ ?_); (intro W; simp only [List.map_toArray, List.map_cons, List.map_nil]; exact HB7.out W); simp only [Act.put, List.setIfInBounds_toArray, List.set_cons_zero, List.set_cons_succ]) | ((with_reducible refine wpList_alloc_ob 51 (nilRule) ?_ ?_); (exact alloc_rule); simp only [Act.put, List.setIfInBounds_toArray, List.set_cons_zero, List.set_cons_succ]) | ((with_reducible refine wpList_store_ob 51 (.tmp 4) (w3.heap.size) (ruleCells markG) (nilRule) 51 ?_ ?_ ?_ ?_ ?_ ?_ ?_); (exact rfl); (exact rfl); (exact ((HS2.out).put 51 (nilRule)).get 1 rfl); (exact info_rule); (exact rfl); (exact (one_rule _)); skip))
  have HS3 : Hid (Hp w [.ob (w.heap.size) 51 (nilRule), .ob (w3.heap.size) 51 (ruleCells markG)] ((w3.alloc (.cells (nilRule).toArray 51)).setRow (w3.heap.size) (ruleCells markG).toArray)) := ((HS2.out).put 51 (nilRule)).row 1 rfl (ruleCells markG)
  clear HS2
  generalize ((w3.alloc (.cells (nilRule).toArray 51)).setRow (w3.heap.size) (ruleCells markG).toArray) = w4 at *
  generalize w3.heap.size = B1 at *
  go_upto_region 3 with (first | ((with_reducible refine wpList_build_v (d := some 8) 51 (.agg (ruleCells textG).toArray) ?_ ?_); (intro W; simp only [List.map_toArray, List.map_cons, List.map_nil]; exact HB8.out W); simp only [Act.put, List.setIfInBounds_toArray, List.set_cons_zero, List.set_cons_succ]) | ((with_reducible refine wpList_alloc_ob 51 (nilRule) ?_ ?_); (exact alloc_rule); simp only [Act.put, List.setIfInBounds_toArray, List.set_cons_zero, List.set_cons_succ]) | ((with_reducible refine wpList_store_ob 51 (.tmp 5) (w4.heap.size) (ruleCells textG) (nilRule) 51 ?_ ?_ ?_ ?_ ?_ ?_ ?_); (exact rfl); (exact rfl); (exact ((HS3.out).put 51 (nilRule)).get 2 rfl); (exact info_rule); (exact rfl); (exact (one_rule _)); skip))
  have HS4 : Hid (Hp w [.ob (w.heap.size) 51 (nilRule), .ob B1 51 (ruleCells markG), .ob (w4.heap.size) 51 (ruleCells textG)] ((w4.alloc (.cells (nilRule).toArray 51)).setRow (w4.heap.size) (ruleCells textG).toArray)) := ((HS3.out).put 51 (nilRule)).row 2 rfl (ruleCells textG)
  clear HS3
  generalize ((w4.alloc (.cells (nilRule).toArray 51)).setRow (w4.heap.size) (ruleCells textG).toArray) = w5 at *
  generalize w4.heap.size = B2 at *
  go_upto_region 4 with (first | ((with_reducible refine wpList_build_v (d := some 9) 51 (.agg (ruleCells changeG).toArray) ?_ ?_); (intro W; simp only [List.map_toArray, List.map_cons, List.map_nil]; exact HB9.out W); simp only [Act.put, List.setIfInBounds_toArray, List.set_cons_zero, List.set_cons_succ]) | ((with_reducible refine wpList_build_v (d := some 10) 51 (.agg (ruleCells undoG).toArray) ?_ ?_); (intro W; simp only [List.map_toArray, List.map_cons, List.map_nil]; exact HB10.out W); simp only [Act.put, List.setIfInBounds_toArray, List.set_cons_zero, List.set_cons_succ]) | ((with_reducible refine wpList_load_ob 51 (.tmp 4) B1 (ruleCells markG) 51 HUR.out ?_ ?_ ?_ ?_ ?_); (exact rfl); (exact (HS4.out).get 1 rfl); (exact rfl); (exact info_rule); simp only [Act.put, List.setIfInBounds_toArray, List.set_cons_zero, List.set_cons_succ]) | ((with_reducible refine wpList_load_ob 51 (.tmp 5) B2 (ruleCells textG) 51 HUR.out ?_ ?_ ?_ ?_ ?_); (exact rfl); (exact (HS4.out).get 2 rfl); (exact rfl); (exact info_rule); simp only [Act.put, List.setIfInBounds_toArray, List.set_cons_zero, List.set_cons_succ]) | ((with_reducible refine wpList_build_v (d := some 15) 51 (.agg (ruleCells indexG).toArray) ?_ ?_); (intro W; simp only [List.map_toArray, List.map_cons, List.map_nil]; exact HB15.out W); simp only [Act.put, List.setIfInBounds_toArray, List.set_cons_zero, List.set_cons_succ]) | ((with_reducible refine wpList_build_v (d := some 17) 67 (.agg (tabCells).toArray) ?_ ?_); (intro W; simp only [List.map_toArray, List.map_cons, List.map_nil]; exact build_tab W); simp only [Act.put, List.setIfInBounds_toArray, List.set_cons_zero, List.set_cons_succ]) | ((with_reducible refine wpList_alloc_ob 67 (tabNil) ?_ ?_); (exact alloc_tab); simp only [Act.put, List.setIfInBounds_toArray, List.set_cons_zero, List.set_cons_succ]) | ((with_reducible refine wpList_store_ob 67 (.tmp 6) (w5.heap.size) (tabCells) (tabNil) 67 ?_ ?_ ?_ ?_ ?_ ?_ ?_); (exact rfl); (exact rfl); (exact ((HS4.out).put 67 (tabNil)).get 3 rfl); (exact info_tab); (exact len_tab); (exact one_tab); skip))
  have HS5 : Hid (Hp w [.ob (w.heap.size) 51 (nilRule), .ob B1 51 (ruleCells markG), .ob B2 51 (ruleCells textG), .ob (w5.heap.size) 67 (tabCells)] ((w5.alloc (.cells (tabNil).toArray 67)).setRow (w5.heap.size) (tabCells).toArray)) := ((HS4.out).put 67 (tabNil)).row 3 rfl (tabCells)
  clear HS4
  generalize ((w5.alloc (.cells (tabNil).toArray 67)).setRow (w5.heap.size) (tabCells).toArray) = w6 at *
  generalize w5.heap.size = B3 at *
  go_wp2_with (first | ((with_reducible refine wpList_load_at 51 (.tmp 26) B3 (n * 6) (ruleCells g) HUR.out ?_ ?_ ?_ ?_ ?_); (exact rfl); (exact (HS5.out).mid 3 rfl (n * 6) _ (HM.out)); (exact rfl); (exact info_rule); simp only [Act.put, List.setIfInBounds_toArray, List.set_cons_zero, List.set_cons_succ]) | ((with_reducible refine wpList_store_ob 51 (.tmp 2) (w.heap.size) (ruleCells g) (nilRule) 51 ?_ ?_ ?_ ?_ ?_ ?_ ?_); (exact rfl); (exact rfl); (exact (HS5.out).get 0 rfl); (exact info_rule); (exact rfl); (exact (one_rule _)); skip))
  have HS6 : Hid (Hp w [.ob (w.heap.size) 51 (ruleCells g), .ob B1 51 (ruleCells markG), .ob B2 51 (ruleCells textG), .ob B3 67 (tabCells)] (w6.setRow (w.heap.size) (ruleCells g).toArray)) := (HS5.out).row 0 rfl (ruleCells g)
  clear HS5
  generalize (w6.setRow (w.heap.size) (ruleCells g).toArray) = w7 at *
  refine bodyPost_ret (results_ob_tmp Tryd.results19 _ _ w.heap.size (ruleCells g) 51 _ rfl ((HS6.out).get 0 rfl) HUR.out rfl info_rule) rfl ?_
  exact ⟨g, HR.out, rfl, (HS6.out).old⟩
set_option maxHeartbeats 4000000 in
theorem ruleOf_lo (k : Int) (w : World) (hk : k < 1) : Calls Tryd.prog 19 #[.int .i64 k] w fun e w' => e = .returned (.tuple #[.agg nilRule.toArray, .bool false]) ∧ Below w.heap.size w w' := by
  obtain ⟨fsHUR, huHUR⟩ := under_rule
  have HUR := Lib.hid huHUR
  clear huHUR
  have HB7 : Hid (∀ W, Sem.run Tryd.prog (Instr.build 51 #[(0, fv markG.g0), (1, fv markG.g1), (2, fv markG.g2), (3, fv markG.g3), (4, fv markG.g4), (5, fv markG.g5)]) W = .ok (.agg (ruleCells markG).toArray) W) := fun W => by kernel_rfl
  have HB8 : Hid (∀ W, Sem.run Tryd.prog (Instr.build 51 #[(0, fv textG.g0), (1, fv textG.g1), (2, fv textG.g2), (3, fv textG.g3), (4, fv textG.g4), (5, fv textG.g5)]) W = .ok (.agg (ruleCells textG).toArray) W) := fun W => by kernel_rfl
  have HB9 : Hid (∀ W, Sem.run Tryd.prog (Instr.build 51 #[(0, fv changeG.g0), (1, fv changeG.g1), (2, fv changeG.g2), (3, fv changeG.g3), (4, fv changeG.g4), (5, fv changeG.g5)]) W = .ok (.agg (ruleCells changeG).toArray) W) := fun W => by kernel_rfl
  have HB10 : Hid (∀ W, Sem.run Tryd.prog (Instr.build 51 #[(0, fv undoG.g0), (1, fv undoG.g1), (2, fv undoG.g2), (3, fv undoG.g3), (4, fv undoG.g4), (5, fv undoG.g5)]) W = .ok (.agg (ruleCells undoG).toArray) W) := fun W => by kernel_rfl
  have HB15 : Hid (∀ W, Sem.run Tryd.prog (Instr.build 51 #[(0, fv indexG.g0), (1, fv indexG.g1), (2, fv indexG.g2), (3, fv indexG.g3), (4, fv indexG.g4), (5, fv indexG.g5)]) W = .ok (.agg (ruleCells indexG).toArray) W) := fun W => by kernel_rfl
  have HB24 : Hid (∀ W, Sem.run Tryd.prog (Instr.build 51 #[]) W = .ok (.agg nilRule.toArray) W) := fun W => by kernel_rfl
  have h1 := (Hp.start w).put 51 nilRule
  have HS0 : Hid (Hp w [.ob w.heap.size 51 nilRule] (w.alloc (.cells #[.nilFunc, .nilFunc, .nilFunc, .nilFunc, .nilFunc, .nilFunc] 51))) := h1
  clear h1
  go_enter Tryd.func19, Tryd.ntmps19
  go_upto_region 1 with (fail)
  have HS2 : Hid (Hp w [.ob (w.heap.size) 51 (nilRule)] (w.alloc (.cells #[.nilFunc, .nilFunc, .nilFunc, .nilFunc, .nilFunc, .nilFunc] 51))) := HS0.out
  clear HS0
  generalize w.alloc (.cells #[.nilFunc, .nilFunc, .nilFunc, .nilFunc, .nilFunc, .nilFunc] 51) = w3 at *
  go_upto_region 2 with (first | ((with_reducible refine wpList_build_v (d := some 7) 51 (.agg (ruleCells markG).toArray) ?_ ?_); (intro W; simp only [List.map_toArray, List.map_cons, List.map_nil]; exact HB7.out W); simp only [Act.put, List.setIfInBounds_toArray, List.set_cons_zero, List.set_cons_succ]) | ((with_reducible refine wpList_alloc_ob 51 (nilRule) ?_ ?_); (exact alloc_rule); simp only [Act.put, List.setIfInBounds_toArray, List.set_cons_zero, List.set_cons_succ]) | ((with_reducible refine wpList_store_ob 51 (.tmp 4) (w3.heap.size) (ruleCells markG) (nilRule) 51 ?_ ?_ ?_ ?_ ?_ ?_ ?_); (exact rfl); (exact rfl); (exact ((HS2.out).put 51 (nilRule)).get 1 rfl); (exact info_rule); (exact rfl); (exact (one_rule _)); skip))
  have HS3 : Hid (Hp w [.ob (w.heap.size) 51 (nilRule), .ob (w3.heap.size) 51 (ruleCells markG)] ((w3.alloc (.cells (nilRule).toArray 51)).setRow (w3.heap.size) (ruleCells markG).toArray)) := ((HS2.out).put 51 (nilRule)).row 1 rfl (ruleCells markG)
  clear HS2
  generalize ((w3.alloc (.cells (nilRule).toArray 51)).setRow (w3.heap.size) (ruleCells markG).toArray) = w4 at *
  generalize w3.heap.size = B1 at *
  go_upto_region 3 with (first | ((with_reducible refine wpList_build_v (d := some 8) 51 (.agg (ruleCells textG).toArray) ?_ ?_); (intro W; simp only [List.map_toArray, List.map_cons, List.map_nil]; exact HB8.out W); simp only [Act.put, List.setIfInBounds_toArray, List.set_cons_zero, List.set_cons_succ]) | ((with_reducible refine wpList_alloc_ob 51 (nilRule) ?_ ?_); (exact alloc_rule); simp only [Act.put, List.setIfInBounds_toArray, List.set_cons_zero, List.set_cons_succ]) | ((with_reducible refine wpList_store_ob 51 (.tmp 5) (w4.heap.size) (ruleCells textG) (nilRule) 51 ?_ ?_ ?_ ?_ ?_ ?_ ?_); (exact rfl); (exact rfl); (exact ((HS3.out).put 51 (nilRule)).get 2 rfl); (exact info_rule); (exact rfl); (exact (one_rule _)); skip))
  have HS4 : Hid (Hp w [.ob (w.heap.size) 51 (nilRule), .ob B1 51 (ruleCells markG), .ob (w4.heap.size) 51 (ruleCells textG)] ((w4.alloc (.cells (nilRule).toArray 51)).setRow (w4.heap.size) (ruleCells textG).toArray)) := ((HS3.out).put 51 (nilRule)).row 2 rfl (ruleCells textG)
  clear HS3
  generalize ((w4.alloc (.cells (nilRule).toArray 51)).setRow (w4.heap.size) (ruleCells textG).toArray) = w5 at *
  generalize w4.heap.size = B2 at *
  go_upto_region 4 with (first | ((with_reducible refine wpList_build_v (d := some 9) 51 (.agg (ruleCells changeG).toArray) ?_ ?_); (intro W; simp only [List.map_toArray, List.map_cons, List.map_nil]; exact HB9.out W); simp only [Act.put, List.setIfInBounds_toArray, List.set_cons_zero, List.set_cons_succ]) | ((with_reducible refine wpList_build_v (d := some 10) 51 (.agg (ruleCells undoG).toArray) ?_ ?_); (intro W; simp only [List.map_toArray, List.map_cons, List.map_nil]; exact HB10.out W); simp only [Act.put, List.setIfInBounds_toArray, List.set_cons_zero, List.set_cons_succ]) | ((with_reducible refine wpList_load_ob 51 (.tmp 4) B1 (ruleCells markG) 51 HUR.out ?_ ?_ ?_ ?_ ?_); (exact rfl); (exact (HS4.out).get 1 rfl); (exact rfl); (exact info_rule); simp only [Act.put, List.setIfInBounds_toArray, List.set_cons_zero, List.set_cons_succ]) | ((with_reducible refine wpList_load_ob 51 (.tmp 5) B2 (ruleCells textG) 51 HUR.out ?_ ?_ ?_ ?_ ?_); (exact rfl); (exact (HS4.out).get 2 rfl); (exact rfl); (exact info_rule); simp only [Act.put, List.setIfInBounds_toArray, List.set_cons_zero, List.set_cons_succ]) | ((with_reducible refine wpList_build_v (d := some 15) 51 (.agg (ruleCells indexG).toArray) ?_ ?_); (intro W; simp only [List.map_toArray, List.map_cons, List.map_nil]; exact HB15.out W); simp only [Act.put, List.setIfInBounds_toArray, List.set_cons_zero, List.set_cons_succ]) | ((with_reducible refine wpList_build_v (d := some 17) 67 (.agg (tabCells).toArray) ?_ ?_); (intro W; simp only [List.map_toArray, List.map_cons, List.map_nil]; exact build_tab W); simp only [Act.put, List.setIfInBounds_toArray, List.set_cons_zero, List.set_cons_succ]) | ((with_reducible refine wpList_alloc_ob 67 (tabNil) ?_ ?_); (exact alloc_tab); simp only [Act.put, List.setIfInBounds_toArray, List.set_cons_zero, List.set_cons_succ]) | ((with_reducible refine wpList_store_ob 67 (.tmp 6) (w5.heap.size) (tabCells) (tabNil) 67 ?_ ?_ ?_ ?_ ?_ ?_ ?_); (exact rfl); (exact rfl); (exact ((HS4.out).put 67 (tabNil)).get 3 rfl); (exact info_tab); (exact len_tab); (exact one_tab); skip))
  have HS5 : Hid (Hp w [.ob (w.heap.size) 51 (nilRule), .ob B1 51 (ruleCells markG), .ob B2 51 (ruleCells textG), .ob (w5.heap.size) 67 (tabCells)] ((w5.alloc (.cells (tabNil).toArray 67)).setRow (w5.heap.size) (tabCells).toArray)) := ((HS4.out).put 67 (tabNil)).row 3 rfl (tabCells)
  clear HS4
  generalize ((w5.alloc (.cells (tabNil).toArray 67)).setRow (w5.heap.size) (tabCells).toArray) = w6 at *
  generalize w5.heap.size = B3 at *
  go_wp2_with (first | ((with_reducible refine wpList_build_v (d := some 24) 51 (.agg (nilRule).toArray) ?_ ?_); (intro W; simp only [List.map_toArray, List.map_cons, List.map_nil]; exact HB24.out W); simp only [Act.put, List.setIfInBounds_toArray, List.set_cons_zero, List.set_cons_succ]) | ((with_reducible refine wpList_store_ob 51 (.tmp 2) (w.heap.size) (nilRule) (nilRule) 51 ?_ ?_ ?_ ?_ ?_ ?_ ?_); (exact rfl); (exact rfl); (exact (HS5.out).get 0 rfl); (exact info_rule); (exact rfl); (exact one_nil); skip))
  have HS6 : Hid (Hp w [.ob (w.heap.size) 51 (nilRule), .ob B1 51 (ruleCells markG), .ob B2 51 (ruleCells textG), .ob B3 67 (tabCells)] (w6.setRow (w.heap.size) (nilRule).toArray)) := (HS5.out).row 0 rfl (nilRule)
  clear HS5
  generalize (w6.setRow (w.heap.size) (nilRule).toArray) = w7 at *
  refine bodyPost_ret (results_ob_tmp Tryd.results19 _ _ w.heap.size nilRule 51 _ rfl ((HS6.out).get 0 rfl) HUR.out rfl info_rule) rfl ?_
  exact ⟨rfl, (HS6.out).old⟩
set_option maxHeartbeats 4000000 in
theorem ruleOf_hi (k : Int) (w : World) (hk : 8 < k) : Calls Tryd.prog 19 #[.int .i64 k] w fun e w' => e = .returned (.tuple #[.agg nilRule.toArray, .bool false]) ∧ Below w.heap.size w w' := by
  obtain ⟨fsHUR, huHUR⟩ := under_rule
  have HUR := Lib.hid huHUR
  clear huHUR
  have HB7 : Hid (∀ W, Sem.run Tryd.prog (Instr.build 51 #[(0, fv markG.g0), (1, fv markG.g1), (2, fv markG.g2), (3, fv markG.g3), (4, fv markG.g4), (5, fv markG.g5)]) W = .ok (.agg (ruleCells markG).toArray) W) := fun W => by kernel_rfl
  have HB8 : Hid (∀ W, Sem.run Tryd.prog (Instr.build 51 #[(0, fv textG.g0), (1, fv textG.g1), (2, fv textG.g2), (3, fv textG.g3), (4, fv textG.g4), (5, fv textG.g5)]) W = .ok (.agg (ruleCells textG).toArray) W) := fun W => by kernel_rfl
  have HB9 : Hid (∀ W, Sem.run Tryd.prog (Instr.build 51 #[(0, fv changeG.g0), (1, fv changeG.g1), (2, fv changeG.g2), (3, fv changeG.g3), (4, fv changeG.g4), (5, fv changeG.g5)]) W = .ok (.agg (ruleCells changeG).toArray) W) := fun W => by kernel_rfl
  have HB10 : Hid (∀ W, Sem.run Tryd.prog (Instr.build 51 #[(0, fv undoG.g0), (1, fv undoG.g1), (2, fv undoG.g2), (3, fv undoG.g3), (4, fv undoG.g4), (5, fv undoG.g5)]) W = .ok (.agg (ruleCells undoG).toArray) W) := fun W => by kernel_rfl
  have HB15 : Hid (∀ W, Sem.run Tryd.prog (Instr.build 51 #[(0, fv indexG.g0), (1, fv indexG.g1), (2, fv indexG.g2), (3, fv indexG.g3), (4, fv indexG.g4), (5, fv indexG.g5)]) W = .ok (.agg (ruleCells indexG).toArray) W) := fun W => by kernel_rfl
  have HB24 : Hid (∀ W, Sem.run Tryd.prog (Instr.build 51 #[]) W = .ok (.agg nilRule.toArray) W) := fun W => by kernel_rfl
  have h1 := (Hp.start w).put 51 nilRule
  have HS0 : Hid (Hp w [.ob w.heap.size 51 nilRule] (w.alloc (.cells #[.nilFunc, .nilFunc, .nilFunc, .nilFunc, .nilFunc, .nilFunc] 51))) := h1
  clear h1
  go_enter Tryd.func19, Tryd.ntmps19
  go_upto_region 1 with (fail)
  have HS2 : Hid (Hp w [.ob (w.heap.size) 51 (nilRule)] (w.alloc (.cells #[.nilFunc, .nilFunc, .nilFunc, .nilFunc, .nilFunc, .nilFunc] 51))) := HS0.out
  clear HS0
  generalize w.alloc (.cells #[.nilFunc, .nilFunc, .nilFunc, .nilFunc, .nilFunc, .nilFunc] 51) = w3 at *
  go_upto_region 2 with (first | ((with_reducible refine wpList_build_v (d := some 7) 51 (.agg (ruleCells markG).toArray) ?_ ?_); (intro W; simp only [List.map_toArray, List.map_cons, List.map_nil]; exact HB7.out W); simp only [Act.put, List.setIfInBounds_toArray, List.set_cons_zero, List.set_cons_succ]) | ((with_reducible refine wpList_alloc_ob 51 (nilRule) ?_ ?_); (exact alloc_rule); simp only [Act.put, List.setIfInBounds_toArray, List.set_cons_zero, List.set_cons_succ]) | ((with_reducible refine wpList_store_ob 51 (.tmp 4) (w3.heap.size) (ruleCells markG) (nilRule) 51 ?_ ?_ ?_ ?_ ?_ ?_ ?_); (exact rfl); (exact rfl); (exact ((HS2.out).put 51 (nilRule)).get 1 rfl); (exact info_rule); (exact rfl); (exact (one_rule _)); skip))
  have HS3 : Hid (Hp w [.ob (w.heap.size) 51 (nilRule), .ob (w3.heap.size) 51 (ruleCells markG)] ((w3.alloc (.cells (nilRule).toArray 51)).setRow (w3.heap.size) (ruleCells markG).toArray)) := ((HS2.out).put 51 (nilRule)).row 1 rfl (ruleCells markG)
  clear HS2
  generalize ((w3.alloc (.cells (nilRule).toArray 51)).setRow (w3.heap.size) (ruleCells markG).toArray) = w4 at *
  generalize w3.heap.size = B1 at *
  go_upto_region 3 with (first | ((with_reducible refine wpList_build_v (d := some 8) 51 (.agg (ruleCells textG).toArray) ?_ ?_); (intro W; simp only [List.map_toArray, List.map_cons, List.map_nil]; exact HB8.out W); simp only [Act.put, List.setIfInBounds_toArray, List.set_cons_zero, List.set_cons_succ]) | ((with_reducible refine wpList_alloc_ob 51 (nilRule) ?_ ?_); (exact alloc_rule); simp only [Act.put, List.setIfInBounds_toArray, List.set_cons_zero, List.set_cons_succ]) | ((with_reducible refine wpList_store_ob 51 (.tmp 5) (w4.heap.size) (ruleCells textG) (nilRule) 51 ?_ ?_ ?_ ?_ ?_ ?_ ?_); (exact rfl); (exact rfl); (exact ((HS3.out).put 51 (nilRule)).get 2 rfl); (exact info_rule); (exact rfl); (exact (one_rule _)); skip))
  have HS4 : Hid (Hp w [.ob (w.heap.size) 51 (nilRule), .ob B1 51 (ruleCells markG), .ob (w4.heap.size) 51 (ruleCells textG)] ((w4.alloc (.cells (nilRule).toArray 51)).setRow (w4.heap.size) (ruleCells textG).toArray)) := ((HS3.out).put 51 (nilRule)).row 2 rfl (ruleCells textG)
  clear HS3
  generalize ((w4.alloc (.cells (nilRule).toArray 51)).setRow (w4.heap.size) (ruleCells textG).toArray) = w5 at *
  generalize w4.heap.size = B2 at *
  go_upto_region 4 with (first | ((with_reducible refine wpList_build_v (d := some 9) 51 (.agg (ruleCells changeG).toArray) ?_ ?_); (intro W; simp only [List.map_toArray, List.map_cons, List.map_nil]; exact HB9.out W); simp only [Act.put, List.setIfInBounds_toArray, List.set_cons_zero, List.set_cons_succ]) | ((with_reducible refine wpList_build_v (d := some 10) 51 (.agg (ruleCells undoG).toArray) ?_ ?_); (intro W; simp only [List.map_toArray, List.map_cons, List.map_nil]; exact HB10.out W); simp only [Act.put, List.setIfInBounds_toArray, List.set_cons_zero, List.set_cons_succ]) | ((with_reducible refine wpList_load_ob 51 (.tmp 4) B1 (ruleCells markG) 51 HUR.out ?_ ?_ ?_ ?_ ?_); (exact rfl); (exact (HS4.out).get 1 rfl); (exact rfl); (exact info_rule); simp only [Act.put, List.setIfInBounds_toArray, List.set_cons_zero, List.set_cons_succ]) | ((with_reducible refine wpList_load_ob 51 (.tmp 5) B2 (ruleCells textG) 51 HUR.out ?_ ?_ ?_ ?_ ?_); (exact rfl); (exact (HS4.out).get 2 rfl); (exact rfl); (exact info_rule); simp only [Act.put, List.setIfInBounds_toArray, List.set_cons_zero, List.set_cons_succ]) | ((with_reducible refine wpList_build_v (d := some 15) 51 (.agg (ruleCells indexG).toArray) ?_ ?_); (intro W; simp only [List.map_toArray, List.map_cons, List.map_nil]; exact HB15.out W); simp only [Act.put, List.setIfInBounds_toArray, List.set_cons_zero, List.set_cons_succ]) | ((with_reducible refine wpList_build_v (d := some 17) 67 (.agg (tabCells).toArray) ?_ ?_); (intro W; simp only [List.map_toArray, List.map_cons, List.map_nil]; exact build_tab W); simp only [Act.put, List.setIfInBounds_toArray, List.set_cons_zero, List.set_cons_succ]) | ((with_reducible refine wpList_alloc_ob 67 (tabNil) ?_ ?_); (exact alloc_tab); simp only [Act.put, List.setIfInBounds_toArray, List.set_cons_zero, List.set_cons_succ]) | ((with_reducible refine wpList_store_ob 67 (.tmp 6) (w5.heap.size) (tabCells) (tabNil) 67 ?_ ?_ ?_ ?_ ?_ ?_ ?_); (exact rfl); (exact rfl); (exact ((HS4.out).put 67 (tabNil)).get 3 rfl); (exact info_tab); (exact len_tab); (exact one_tab); skip))
  have HS5 : Hid (Hp w [.ob (w.heap.size) 51 (nilRule), .ob B1 51 (ruleCells markG), .ob B2 51 (ruleCells textG), .ob (w5.heap.size) 67 (tabCells)] ((w5.alloc (.cells (tabNil).toArray 67)).setRow (w5.heap.size) (tabCells).toArray)) := ((HS4.out).put 67 (tabNil)).row 3 rfl (tabCells)
  clear HS4
  generalize ((w5.alloc (.cells (tabNil).toArray 67)).setRow (w5.heap.size) (tabCells).toArray) = w6 at *
  generalize w5.heap.size = B3 at *
  go_wp2_with (first | ((with_reducible refine wpList_build_v (d := some 24) 51 (.agg (nilRule).toArray) ?_ ?_); (intro W; simp only [List.map_toArray, List.map_cons, List.map_nil]; exact HB24.out W); simp only [Act.put, List.setIfInBounds_toArray, List.set_cons_zero, List.set_cons_succ]) | ((with_reducible refine wpList_store_ob 51 (.tmp 2) (w.heap.size) (nilRule) (nilRule) 51 ?_ ?_ ?_ ?_ ?_ ?_ ?_); (exact rfl); (exact rfl); (exact (HS5.out).get 0 rfl); (exact info_rule); (exact rfl); (exact one_nil); skip))
  have HS6 : Hid (Hp w [.ob (w.heap.size) 51 (nilRule), .ob B1 51 (ruleCells markG), .ob B2 51 (ruleCells textG), .ob B3 67 (tabCells)] (w6.setRow (w.heap.size) (nilRule).toArray)) := (HS5.out).row 0 rfl (nilRule)
  clear HS5
  generalize (w6.setRow (w.heap.size) (nilRule).toArray) = w7 at *
  refine bodyPost_ret (results_ob_tmp Tryd.results19 _ _ w.heap.size nilRule 51 _ rfl ((HS6.out).get 0 rfl) HUR.out rfl info_rule) rfl ?_
  exact ⟨rfl, (HS6.out).old⟩
theorem ruleOf_no (k : Int) (w : World) (hk : kindB k = false) : Calls Tryd.prog 19 #[.int .i64 k] w fun e w' => e = .returned (.tuple #[.agg nilRule.toArray, .bool false]) ∧ Below w.heap.size w w' := by
  by_cases h : k < 1
  · exact ruleOf_lo k w h
  · exact ruleOf_hi k w (by
      unfold kindB at hk
      simp at hk
      have := hk (by omega)
      omega)
end Go.Proofs.YtpmfdpkcnldpiaaDoor
/- the walk of the program's check of an entry -/
namespace Go.Proofs.YtpmfdpkcnldpiaaDoor
open Go.RowKit
set_option maxRecDepth 20000
set_option linter.unusedSimpArgs false
set_option linter.unusedVariables false

set_option maxHeartbeats 4000000 in
theorem valid_no' (e : Ent) (w : World) (he : GoodEn e) (hk : kindB e.kind = false) : Calls Tryd.prog 13 #[.agg (enCells e).toArray] w fun r w' => r = .returned (.bool (entOkB e)) ∧ Below w.heap.size w w' := by
  have HE : Hid (entOkB e = (kindB e.kind && (decide (1 ≤ e.lsn) && (decide (e.lsn ≤ 1099511627776) && (befB e.ptx e.lsn && (befB e.ppg e.lsn && (befB e.ref e.lsn && ((ruleF e.kind).p0 e.tx && ((ruleF e.kind).p1 e.ptx && ((ruleF e.kind).p2 e.ppg && ((ruleF e.kind).p3 e.ref e.ptx && ((ruleF e.kind).p4 e.ch && (ruleF e.kind).p5 e.blob)))))))))))) := rfl
  have HC := Lib.hid he.ch
  have HBl := Lib.hid he.blob
  clear he
  have h1 := (Hp.start w).put 31 (enCells e)
  have HS0 : Hid (Hp w [.ob w.heap.size 31 (enCells e)] (w.alloc (.cells (enCells e).toArray 31))) := h1
  clear h1
  have e1 : (w.alloc (.cells (enCells e).toArray 31)).cell? ⟨w.heap.size, 1, none⟩ = some (.int .i64 e.kind) := HS0.out.at 0 rfl 1 rfl
  go_enter Tryd.func13, Tryd.ntmps13
  go_wp2_with fail
  refine (ruleOf_no e.kind _ hk).mono ?_
  rintro r w2 ⟨rfl, hb⟩
  have HS1 : Hid (Hp w [.ob w.heap.size 31 (enCells e)] w2) := HS0.out.calls hb
  clear hb e1 HS0
  have HS2 := Lib.hid ((HS1.out.put 51 nilRule).row 1 rfl nilRule)
  go_wp2_with (first | ((with_reducible refine wpList_alloc_ob 51 nilRule ?_ ?_); (exact alloc_rule); simp only [Act.put, List.setIfInBounds_toArray, List.set_cons_zero, List.set_cons_succ]) | ((with_reducible refine wpList_store_ob 51 (.tmp 3) w2.heap.size nilRule nilRule 51 ?_ ?_ ?_ ?_ ?_ ?_ ?_); (exact rfl); (exact rfl); (exact (HS1.out.put 51 nilRule).get 1 rfl); (exact info_rule); (exact rfl); (exact one_nil); skip))
  go_ret
  exact ⟨ret_bool (by rw [HE.out, hk]; rfl), HS2.out.old⟩
set_option maxHeartbeats 4000000 in
theorem valid_yes' (e : Ent) (w : World) (he : GoodEn e) (hk : kindB e.kind = true) : Calls Tryd.prog 13 #[.agg (enCells e).toArray] w fun r w' => r = .returned (.bool (entOkB e)) ∧ Below w.heap.size w w' := by
  have HE : Hid (entOkB e = (kindB e.kind && (decide (1 ≤ e.lsn) && (decide (e.lsn ≤ 1099511627776) && (befB e.ptx e.lsn && (befB e.ppg e.lsn && (befB e.ref e.lsn && ((ruleF e.kind).p0 e.tx && ((ruleF e.kind).p1 e.ptx && ((ruleF e.kind).p2 e.ppg && ((ruleF e.kind).p3 e.ref e.ptx && ((ruleF e.kind).p4 e.ch && (ruleF e.kind).p5 e.blob)))))))))))) := rfl
  have HC := Lib.hid he.ch
  have HBl := Lib.hid he.blob
  clear he
  have h1 := (Hp.start w).put 31 (enCells e)
  have HS0 : Hid (Hp w [.ob w.heap.size 31 (enCells e)] (w.alloc (.cells (enCells e).toArray 31))) := h1
  clear h1
  have e1 : (w.alloc (.cells (enCells e).toArray 31)).cell? ⟨w.heap.size, 1, none⟩ = some (.int .i64 e.kind) := HS0.out.at 0 rfl 1 rfl
  go_enter Tryd.func13, Tryd.ntmps13
  go_wp2_with fail
  refine (ruleOf_yes e.kind _ hk).mono ?_
  rintro r w2 ⟨g, hr, rfl, hb⟩
  have HS1 : Hid (Hp w [.ob w.heap.size 31 (enCells e)] w2) := HS0.out.calls hb
  have HR := Lib.hid hr
  clear hb e1 HS0 hr
  have HS2 : Hid (Hp w [.ob w.heap.size 31 (enCells e), .ob w2.heap.size 51 (ruleCells g)] ((w2.alloc (.cells nilRule.toArray 51)).setRow w2.heap.size (ruleCells g).toArray)) := (HS1.out.put 51 nilRule).row 1 rfl (ruleCells g)
  by_cases a1 : 1 ≤ e.lsn
  case neg =>
    go_wp2_with (first | ((with_reducible refine wpList_alloc_ob 51 nilRule ?_ ?_); (exact alloc_rule); simp only [Act.put, List.setIfInBounds_toArray, List.set_cons_zero, List.set_cons_succ]) | ((with_reducible refine wpList_store_ob 51 (.tmp 3) w2.heap.size (ruleCells g) nilRule 51 ?_ ?_ ?_ ?_ ?_ ?_ ?_); (exact rfl); (exact rfl); (exact (HS1.out.put 51 nilRule).get 1 rfl); (exact info_rule); (exact rfl); (exact (one_rule _)); (generalize (w2.alloc (.cells nilRule.toArray 51)).setRow w2.heap.size (ruleCells g).toArray = w3 at *); have e0 : w3.cell? ⟨w.heap.size, 0, none⟩ = some (.int .i64 e.lsn) := HS2.out.at 0 rfl 0 rfl; have e2 : w3.cell? ⟨w.heap.size, 2, none⟩ = some (.int .i64 e.tx) := HS2.out.at 0 rfl 2 rfl; have e3 : w3.cell? ⟨w.heap.size, 3, none⟩ = some (.int .i64 e.ptx) := HS2.out.at 0 rfl 3 rfl; have e4 : w3.cell? ⟨w.heap.size, 4, none⟩ = some (.int .i64 e.ppg) := HS2.out.at 0 rfl 4 rfl; have e5 : w3.cell? ⟨w.heap.size, 5, none⟩ = some (.int .i64 e.ref) := HS2.out.at 0 rfl 5 rfl; have e6 : w3.cell? ⟨w.heap.size, 6, none⟩ = some (.int .i64 e.ch.page) := HS2.out.at 0 rfl 6 rfl; have e7 : w3.cell? ⟨w.heap.size, 7, none⟩ = some (.int .i64 e.ch.slot) := HS2.out.at 0 rfl 7 rfl; have e8 : w3.cell? ⟨w.heap.size, 8, none⟩ = some (.bool e.ch.before.set) := HS2.out.at 0 rfl 8 rfl; have e9 : w3.cell? ⟨w.heap.size, 9, none⟩ = some (.string e.ch.before.data) := HS2.out.at 0 rfl 9 rfl; have e10 : w3.cell? ⟨w.heap.size, 10, none⟩ = some (.bool e.ch.after.set) := HS2.out.at 0 rfl 10 rfl; have e11 : w3.cell? ⟨w.heap.size, 11, none⟩ = some (.string e.ch.after.data) := HS2.out.at 0 rfl 11 rfl; have r0 : w3.cell? ⟨w2.heap.size, 0, none⟩ = some (.func (.func g.g0) #[] #[]) := HS2.out.at 1 rfl 0 rfl; have eg0 : ∀ args w, (callFunc g.g0 args).run Tryd.prog w = .ok (.enter g.g0 args) w := HR.out.e0; have r1 : w3.cell? ⟨w2.heap.size, 1, none⟩ = some (.func (.func g.g1) #[] #[]) := HS2.out.at 1 rfl 1 rfl; have eg1 : ∀ args w, (callFunc g.g1 args).run Tryd.prog w = .ok (.enter g.g1 args) w := HR.out.e1; have r2 : w3.cell? ⟨w2.heap.size, 2, none⟩ = some (.func (.func g.g2) #[] #[]) := HS2.out.at 1 rfl 2 rfl; have eg2 : ∀ args w, (callFunc g.g2 args).run Tryd.prog w = .ok (.enter g.g2 args) w := HR.out.e2; have r3 : w3.cell? ⟨w2.heap.size, 3, none⟩ = some (.func (.func g.g3) #[] #[]) := HS2.out.at 1 rfl 3 rfl; have eg3 : ∀ args w, (callFunc g.g3 args).run Tryd.prog w = .ok (.enter g.g3 args) w := HR.out.e3; have r4 : w3.cell? ⟨w2.heap.size, 4, none⟩ = some (.func (.func g.g4) #[] #[]) := HS2.out.at 1 rfl 4 rfl; have eg4 : ∀ args w, (callFunc g.g4 args).run Tryd.prog w = .ok (.enter g.g4 args) w := HR.out.e4))
    go_ret
    exact ⟨ret_bool (by rw [HE.out]; simp [hk, show ¬ (1 ≤ e.lsn) by omega]), HS2.out.old⟩
  case pos =>
    by_cases a2 : e.lsn ≤ 1099511627776
    case neg =>
      go_wp2_with (first | ((with_reducible refine wpList_alloc_ob 51 nilRule ?_ ?_); (exact alloc_rule); simp only [Act.put, List.setIfInBounds_toArray, List.set_cons_zero, List.set_cons_succ]) | ((with_reducible refine wpList_store_ob 51 (.tmp 3) w2.heap.size (ruleCells g) nilRule 51 ?_ ?_ ?_ ?_ ?_ ?_ ?_); (exact rfl); (exact rfl); (exact (HS1.out.put 51 nilRule).get 1 rfl); (exact info_rule); (exact rfl); (exact (one_rule _)); (generalize (w2.alloc (.cells nilRule.toArray 51)).setRow w2.heap.size (ruleCells g).toArray = w3 at *); have e0 : w3.cell? ⟨w.heap.size, 0, none⟩ = some (.int .i64 e.lsn) := HS2.out.at 0 rfl 0 rfl; have e2 : w3.cell? ⟨w.heap.size, 2, none⟩ = some (.int .i64 e.tx) := HS2.out.at 0 rfl 2 rfl; have e3 : w3.cell? ⟨w.heap.size, 3, none⟩ = some (.int .i64 e.ptx) := HS2.out.at 0 rfl 3 rfl; have e4 : w3.cell? ⟨w.heap.size, 4, none⟩ = some (.int .i64 e.ppg) := HS2.out.at 0 rfl 4 rfl; have e5 : w3.cell? ⟨w.heap.size, 5, none⟩ = some (.int .i64 e.ref) := HS2.out.at 0 rfl 5 rfl; have e6 : w3.cell? ⟨w.heap.size, 6, none⟩ = some (.int .i64 e.ch.page) := HS2.out.at 0 rfl 6 rfl; have e7 : w3.cell? ⟨w.heap.size, 7, none⟩ = some (.int .i64 e.ch.slot) := HS2.out.at 0 rfl 7 rfl; have e8 : w3.cell? ⟨w.heap.size, 8, none⟩ = some (.bool e.ch.before.set) := HS2.out.at 0 rfl 8 rfl; have e9 : w3.cell? ⟨w.heap.size, 9, none⟩ = some (.string e.ch.before.data) := HS2.out.at 0 rfl 9 rfl; have e10 : w3.cell? ⟨w.heap.size, 10, none⟩ = some (.bool e.ch.after.set) := HS2.out.at 0 rfl 10 rfl; have e11 : w3.cell? ⟨w.heap.size, 11, none⟩ = some (.string e.ch.after.data) := HS2.out.at 0 rfl 11 rfl; have r0 : w3.cell? ⟨w2.heap.size, 0, none⟩ = some (.func (.func g.g0) #[] #[]) := HS2.out.at 1 rfl 0 rfl; have eg0 : ∀ args w, (callFunc g.g0 args).run Tryd.prog w = .ok (.enter g.g0 args) w := HR.out.e0; have r1 : w3.cell? ⟨w2.heap.size, 1, none⟩ = some (.func (.func g.g1) #[] #[]) := HS2.out.at 1 rfl 1 rfl; have eg1 : ∀ args w, (callFunc g.g1 args).run Tryd.prog w = .ok (.enter g.g1 args) w := HR.out.e1; have r2 : w3.cell? ⟨w2.heap.size, 2, none⟩ = some (.func (.func g.g2) #[] #[]) := HS2.out.at 1 rfl 2 rfl; have eg2 : ∀ args w, (callFunc g.g2 args).run Tryd.prog w = .ok (.enter g.g2 args) w := HR.out.e2; have r3 : w3.cell? ⟨w2.heap.size, 3, none⟩ = some (.func (.func g.g3) #[] #[]) := HS2.out.at 1 rfl 3 rfl; have eg3 : ∀ args w, (callFunc g.g3 args).run Tryd.prog w = .ok (.enter g.g3 args) w := HR.out.e3; have r4 : w3.cell? ⟨w2.heap.size, 4, none⟩ = some (.func (.func g.g4) #[] #[]) := HS2.out.at 1 rfl 4 rfl; have eg4 : ∀ args w, (callFunc g.g4 args).run Tryd.prog w = .ok (.enter g.g4 args) w := HR.out.e4))
      go_ret
      exact ⟨ret_bool (by rw [HE.out]; simp [hk, a1, show ¬ (e.lsn ≤ 1099511627776) by omega]), HS2.out.old⟩
    case pos =>
      go_wp2_with (first | ((with_reducible refine wpList_alloc_ob 51 nilRule ?_ ?_); (exact alloc_rule); simp only [Act.put, List.setIfInBounds_toArray, List.set_cons_zero, List.set_cons_succ]) | ((with_reducible refine wpList_store_ob 51 (.tmp 3) w2.heap.size (ruleCells g) nilRule 51 ?_ ?_ ?_ ?_ ?_ ?_ ?_); (exact rfl); (exact rfl); (exact (HS1.out.put 51 nilRule).get 1 rfl); (exact info_rule); (exact rfl); (exact (one_rule _)); (generalize (w2.alloc (.cells nilRule.toArray 51)).setRow w2.heap.size (ruleCells g).toArray = w3 at *); have e0 : w3.cell? ⟨w.heap.size, 0, none⟩ = some (.int .i64 e.lsn) := HS2.out.at 0 rfl 0 rfl; have e2 : w3.cell? ⟨w.heap.size, 2, none⟩ = some (.int .i64 e.tx) := HS2.out.at 0 rfl 2 rfl; have e3 : w3.cell? ⟨w.heap.size, 3, none⟩ = some (.int .i64 e.ptx) := HS2.out.at 0 rfl 3 rfl; have e4 : w3.cell? ⟨w.heap.size, 4, none⟩ = some (.int .i64 e.ppg) := HS2.out.at 0 rfl 4 rfl; have e5 : w3.cell? ⟨w.heap.size, 5, none⟩ = some (.int .i64 e.ref) := HS2.out.at 0 rfl 5 rfl; have e6 : w3.cell? ⟨w.heap.size, 6, none⟩ = some (.int .i64 e.ch.page) := HS2.out.at 0 rfl 6 rfl; have e7 : w3.cell? ⟨w.heap.size, 7, none⟩ = some (.int .i64 e.ch.slot) := HS2.out.at 0 rfl 7 rfl; have e8 : w3.cell? ⟨w.heap.size, 8, none⟩ = some (.bool e.ch.before.set) := HS2.out.at 0 rfl 8 rfl; have e9 : w3.cell? ⟨w.heap.size, 9, none⟩ = some (.string e.ch.before.data) := HS2.out.at 0 rfl 9 rfl; have e10 : w3.cell? ⟨w.heap.size, 10, none⟩ = some (.bool e.ch.after.set) := HS2.out.at 0 rfl 10 rfl; have e11 : w3.cell? ⟨w.heap.size, 11, none⟩ = some (.string e.ch.after.data) := HS2.out.at 0 rfl 11 rfl; have r0 : w3.cell? ⟨w2.heap.size, 0, none⟩ = some (.func (.func g.g0) #[] #[]) := HS2.out.at 1 rfl 0 rfl; have eg0 : ∀ args w, (callFunc g.g0 args).run Tryd.prog w = .ok (.enter g.g0 args) w := HR.out.e0; have r1 : w3.cell? ⟨w2.heap.size, 1, none⟩ = some (.func (.func g.g1) #[] #[]) := HS2.out.at 1 rfl 1 rfl; have eg1 : ∀ args w, (callFunc g.g1 args).run Tryd.prog w = .ok (.enter g.g1 args) w := HR.out.e1; have r2 : w3.cell? ⟨w2.heap.size, 2, none⟩ = some (.func (.func g.g2) #[] #[]) := HS2.out.at 1 rfl 2 rfl; have eg2 : ∀ args w, (callFunc g.g2 args).run Tryd.prog w = .ok (.enter g.g2 args) w := HR.out.e2; have r3 : w3.cell? ⟨w2.heap.size, 3, none⟩ = some (.func (.func g.g3) #[] #[]) := HS2.out.at 1 rfl 3 rfl; have eg3 : ∀ args w, (callFunc g.g3 args).run Tryd.prog w = .ok (.enter g.g3 args) w := HR.out.e3; have r4 : w3.cell? ⟨w2.heap.size, 4, none⟩ = some (.func (.func g.g4) #[] #[]) := HS2.out.at 1 rfl 4 rfl; have eg4 : ∀ args w, (callFunc g.g4 args).run Tryd.prog w = .ok (.enter g.g4 args) w := HR.out.e4))
      refine (before_f _ _ _).mono ?_
      rintro r w' ⟨rfl, rfl⟩
      cases q0 : befB e.ptx e.lsn
      case false =>
        go_wp2_with fail
        go_ret
        exact ⟨ret_bool (by rw [HE.out]; simp [hk, a1, a2, q0]), HS2.out.old⟩
      case true =>
        go_wp2_with fail
        refine (before_f _ _ _).mono ?_
        rintro r w' ⟨rfl, rfl⟩
        cases q1 : befB e.ppg e.lsn
        case false =>
          go_wp2_with fail
          go_ret
          exact ⟨ret_bool (by rw [HE.out]; simp [hk, a1, a2, q0, q1]), HS2.out.old⟩
        case true =>
          go_wp2_with fail
          refine (before_f _ _ _).mono ?_
          rintro r w' ⟨rfl, rfl⟩
          cases q2 : befB e.ref e.lsn
          case false =>
            go_wp2_with fail
            go_ret
            exact ⟨ret_bool (by rw [HE.out]; simp [hk, a1, a2, q0, q1, q2]), HS2.out.old⟩
          case true =>
            go_wp2_with fail
            refine (HR.out.c0 _ _).mono ?_
            rintro r w' ⟨rfl, rfl⟩
            cases q3 : (ruleF e.kind).p0 e.tx
            case false =>
              go_wp2_with fail
              go_ret
              exact ⟨ret_bool (by rw [HE.out]; simp [hk, a1, a2, q0, q1, q2, q3]), HS2.out.old⟩
            case true =>
              go_wp2_with fail
              refine (HR.out.c1 _ _).mono ?_
              rintro r w' ⟨rfl, rfl⟩
              cases q4 : (ruleF e.kind).p1 e.ptx
              case false =>
                go_wp2_with fail
                go_ret
                exact ⟨ret_bool (by rw [HE.out]; simp [hk, a1, a2, q0, q1, q2, q3, q4]), HS2.out.old⟩
              case true =>
                go_wp2_with fail
                refine (HR.out.c2 _ _).mono ?_
                rintro r w' ⟨rfl, rfl⟩
                cases q5 : (ruleF e.kind).p2 e.ppg
                case false =>
                  go_wp2_with fail
                  go_ret
                  exact ⟨ret_bool (by rw [HE.out]; simp [hk, a1, a2, q0, q1, q2, q3, q4, q5]), HS2.out.old⟩
                case true =>
                  go_wp2_with fail
                  refine (HR.out.c3 _ _ _).mono ?_
                  rintro r w' ⟨rfl, rfl⟩
                  cases q6 : (ruleF e.kind).p3 e.ref e.ptx
                  case false =>
                    go_wp2_with fail
                    go_ret
                    exact ⟨ret_bool (by rw [HE.out]; simp [hk, a1, a2, q0, q1, q2, q3, q4, q5, q6]), HS2.out.old⟩
                  case true =>
                    go_wp2_with fail
                    refine (HR.out.c4 e.ch _ HC.out).mono ?_
                    rintro r w4 ⟨rfl, hb⟩
                    have HS3 : Hid (Hp w [.ob w.heap.size 31 (enCells e), .ob w2.heap.size 51 (ruleCells g)] w4) := HS2.out.calls hb
                    clear hb HS2
                    have HS2 := HS3
                    clear HS3
                    have e12 : w4.cell? ⟨w.heap.size, 12, none⟩ = some (.string e.blob) := HS2.out.at 0 rfl 12 rfl
                    have r5 : w4.cell? ⟨w2.heap.size, 5, none⟩ = some (.func (.func g.g5) #[] #[]) := HS2.out.at 1 rfl 5 rfl
                    have eg5 : ∀ args w, (callFunc g.g5 args).run Tryd.prog w = .ok (.enter g.g5 args) w := HR.out.e5
                    cases q7 : (ruleF e.kind).p4 e.ch
                    case false =>
                      go_wp2_with fail
                      go_ret
                      exact ⟨ret_bool (by rw [HE.out]; simp [hk, a1, a2, q0, q1, q2, q3, q4, q5, q6, q7]), HS2.out.old⟩
                    case true =>
                      go_wp2_with fail
                      refine (HR.out.c5 _ _ HBl.out).mono ?_
                      rintro r w' ⟨rfl, rfl⟩
                      cases q8 : (ruleF e.kind).p5 e.blob
                      case false =>
                        go_wp2_with fail
                        go_ret
                        exact ⟨ret_bool (by rw [HE.out]; simp [hk, a1, a2, q0, q1, q2, q3, q4, q5, q6, q7, q8]), HS2.out.old⟩
                      case true =>
                        go_wp2_with fail
                        go_ret
                        exact ⟨ret_bool (by rw [HE.out]; simp [hk, a1, a2, q0, q1, q2, q3, q4, q5, q6, q7, q8]), HS2.out.old⟩
theorem valid_en (e : Ent) (w : World) (he : GoodEn e) : Calls Tryd.prog 13 #[.agg (enCells e).toArray] w fun r w' => r = .returned (.bool (entOkB e)) ∧ Below w.heap.size w w' := by
  cases hk : kindB e.kind
  · exact valid_no' e w he hk
  · exact valid_yes' e w he hk
end Go.Proofs.YtpmfdpkcnldpiaaDoor
/- the program's checks of a log -/
namespace Go.Proofs.YtpmfdpkcnldpiaaDoor
open Go.RowKit
set_option maxRecDepth 20000
set_option linter.unusedSimpArgs false
set_option linter.unusedVariables false

set_option maxHeartbeats 400000 in
theorem validFirst_f (n : Int) (w : World) : Calls Tryd.prog 17 #[.int .i64 n] w fun e w' => e = .returned (.bool (firstB n)) ∧ w = w' := by
  by_cases h0 : 1 ≤ n
  · by_cases h1 : n ≤ 1099511627776
    all_goals
      go_enter Tryd.func17, Tryd.ntmps17
      go_wp2
      go_ret
      exact ⟨ret_bool (by simp [firstB]; omega), rfl⟩
  · go_enter Tryd.func17, Tryd.ntmps17
    go_wp2
    go_ret
    exact ⟨ret_bool (by simp [firstB]; omega), rfl⟩
set_option maxHeartbeats 1000000 in
theorem end_lg {v : Value} {L : Lg} {R : List Rng} (w : World) (h : LgRd v L R) (hf : 0 ≤ L.first ∧ L.first ≤ 1099511627776) (hn : L.ents.length ≤ 4096) :
    Calls Tryd.prog 12 #[.agg (lgCells v L).toArray] w fun e w' => e = .returned (.int .i64 (endI L)) ∧ Below w.heap.size w w' := by
  obtain ⟨a, cap, rfl, _⟩ := h
  have HB : Hid (∀ cs, Below w.heap.size w (w.alloc (.cells cs 25))) := fun cs => (Below.refl _ _).alloc (Nat.le_refl _) _
  obtain ⟨f0, f1⟩ := hf
  have hn1 : (L.ents.length : Int) ≤ 4096 := by omega
  have hn0 : (0 : Int) ≤ (L.ents.length : Int) := by omega
  have hw1 : IntKind.i64.wrap (L.first + (L.ents.length : Int)) = L.first + (L.ents.length : Int) := IntWalk.i64_in _ (by omega)
  have hw2 : IntKind.i64.wrap (L.first + (L.ents.length : Int) - 1) = L.first + (L.ents.length : Int) - 1 := IntWalk.i64_in _ (by omega)
  clear hn
  unfold lgCells
  go_enter Tryd.func12, Tryd.ntmps12
  go_wp2
  go_ret
  exact ⟨rfl, HB.out _⟩
set_option maxHeartbeats 4000000 in
theorem inOrder_lg {v : Value} {L : Lg} {R : List Rng} (w : World) (h : LgRd v L R) (hR : RdIn w R) (hg : ∀ e ∈ L.ents, GoodEn e) (hf : 0 ≤ L.first ∧ L.first ≤ 1099511627776) (hn : L.ents.length ≤ 4096) :
    Calls Tryd.prog 18 #[.agg (lgCells v L).toArray] w fun e w' => e = .returned (.bool (ordB L.first L.ents)) ∧ Below w.heap.size w w' := by
  obtain ⟨a, cap, rfl, hnc, hcm, hg0⟩ := SlRd.open h hR
  have HGe := Lib.hid hg
  have HF := Lib.hid hf
  have HN := Lib.hid hn
  have h1 := (Hp.start w).put 25 (lgCells (.slice a L.ents.length cap) L)
  have HS0 : Hid (Hp w [.ob w.heap.size 25 (lgCells (.slice a L.ents.length cap) L)] (w.alloc (.cells (lgCells (.slice a L.ents.length cap) L).toArray 25))) := h1
  clear h1
  have b1 : (w.alloc (.cells (lgCells (.slice a L.ents.length cap) L).toArray 25)).cell? ⟨w.heap.size, 1, none⟩ = some (.slice a L.ents.length cap) := HS0.out.at 0 rfl 1 rfl
  obtain ⟨fsHUG, huHUG⟩ := under_lg
  have HUG := Lib.hid huHUG
  clear huHUG
  obtain ⟨fsHUE, huHUE⟩ := under_en
  have HUE := Lib.hid huHUE
  clear huHUE
  clear h hR hg hf
  go_enter Tryd.func18, Tryd.ntmps18
  go_wp2_with fail
  go_loopw [7] (fun i wr => ∃ k : Nat, k ≤ L.ents.length ∧ i = .int .i64 k ∧ (List.range k).all (ordAtB L.first L.ents) = true ∧ Hp w [.ob w.heap.size 25 (lgCells (.slice a L.ents.length cap) L)] wr) (fun i _ => L.ents.length - (intOf i).toNat)
  case atStart => exact ⟨0, by omega, rfl, rfl, HS0.out⟩
  case round =>
    clear HS0 b1
    obtain ⟨k, hk, rfl, hh, hs⟩ := hrel
    have HY := Lib.hid hs
    have HH := Lib.hid hh
    clear hs hh
    by_cases hlt : k < L.ents.length
    · obtain ⟨g, off, rfl, hr⟩ := hg0.out (by omega)
      obtain ⟨y, hy⟩ : ∃ y, L.ents[k] = y := ⟨_, rfl⟩
      have HRg : Hid (∀ W, Below w.heap.size w W → W.rangeAt g (off + k * 13) (enCells y)) := fun W hb j v hv => by
        have := hr W hb (k * 13 + j) v (entRow_at L.ents k y (by rw [List.getElem?_eq_getElem hlt, hy]) j v hv)
        rw [Nat.add_assoc]
        exact this
      have HNo : Hid (ordAtB L.first L.ents k = false → ordB L.first L.ents = false) := fun h => range_no hlt h
      have HYes : Hid (ordAtB L.first L.ents k = true → (List.range (k + 1)).all (ordAtB L.first L.ents) = true) := fun h => range_take HH.out h
      have HAt : Hid (ordAtB L.first L.ents k = (decide (y.lsn = L.first + k) && entOkB y)) := by show _ = _; unfold ordAtB; rw [getD_ent hlt, hy]
      have hGy : GoodEn y := HGe.out y (by rw [← hy]; exact List.getElem_mem hlt)
      have HVy : Hid (∀ W, Calls Tryd.prog 13 #[.agg (enCells y).toArray] W fun e w' => e = .returned (.bool (entOkB y)) ∧ Below W.heap.size W w') := fun W => valid_en y W hGy
      have hki : (k : Int) < (L.ents.length : Int) := by omega
      have hk0 : (0 : Int) ≤ (k : Int) := by omega
      have hkm : (k : Int) ≤ 4096 := by omega
      have hw1 : IntKind.i64.wrap (L.first + (k : Int)) = L.first + (k : Int) := IntWalk.i64_in _ (by have := HF.out; omega)
      clear hr hy hGy
      generalize entOkB y = vb at *
      by_cases hx : y.lsn = L.first + k
      · have hxb : (y.lsn != L.first + (k : Int)) = false := by simp [hx]
        have HX := Lib.hid hx
        clear hx
        go_upto_region 4 with (fail)
        refine wp_region_held_drew (S := fun w' => w'.rangeAt w.heap.size 0 (lgCells (.slice (some ⟨g, off, none⟩) L.ents.length cap) L) ∧ w'.rangeAt g (off + k * 13) (enCells y)) (by kernel_rfl) (⟨fun j v hv => by rw [Nat.zero_add]; exact (HY.out.drew).at 0 rfl j hv, HRg.out _ (HY.out.drew).old⟩) (fun hHeld => ?_)
        refine wpAnyH_take (i := 0) (oi := { dst := some 10, op := Op.fieldAddr 25 (Operand.tmp 1) 1, type := 0, pos := "journal.go:33", after := #[], guard := none }) (v := ?q101v) rfl (by kernel_rfl) (by kernel_rfl) (by kernel_rfl) (fun _ _ _ h => h) (Or.inl ⟨by rfl, ?q101h⟩) hHeld ?q101r
        case q101h => (intro wq hSw; clear hSw; go_simp; try with_reducible rfl)
        try simp only [Act.put, List.setIfInBounds_toArray, List.set_cons_zero, List.set_cons_succ]
        refine wpAnyH_take (i := 1) (oi := { dst := some 11, op := Op.load 23 (Operand.tmp 10), type := 23, pos := "journal.go:33", after := #[{ on := 0, ground := Ground.data }], guard := none }) (v := ?q102v) rfl (by kernel_rfl) (by kernel_rfl) (by kernel_rfl) (fun _ _ _ h => h) (Or.inl ⟨by rfl, ?q102h⟩) hHeld ?q102r
        case q102h => (intro wq hSw; have hq := hSw.1 1 _ rfl; simp only [Nat.zero_add] at hq; clear hSw; go_simp; try with_reducible rfl)
        try simp only [Act.put, List.setIfInBounds_toArray, List.set_cons_zero, List.set_cons_succ]
        refine wpAnyH_take (i := 2) (oi := { dst := some 12, op := Op.move (Operand.tmp 3), type := 3, pos := "journal.go:33", after := #[], guard := none }) (v := ?q103v) rfl (by kernel_rfl) (by kernel_rfl) (by kernel_rfl) (fun _ _ _ h => h) (Or.inl ⟨by rfl, ?q103h⟩) hHeld ?q103r
        case q103h => (intro wq hSw; clear hSw; go_simp; try with_reducible rfl)
        try simp only [Act.put, List.setIfInBounds_toArray, List.set_cons_zero, List.set_cons_succ]
        refine wpAnyH_take (i := 3) (oi := { dst := some 13, op := Op.indexAddr 23 (Operand.tmp 11) (Operand.tmp 12), type := 0, pos := "journal.go:33", after := #[{ on := 1, ground := Ground.data }, { on := 2, ground := Ground.data }], guard := none }) (v := ?q104v) rfl (by kernel_rfl) (by kernel_rfl) (by kernel_rfl) (fun _ _ _ h => h) (Or.inl ⟨by rfl, ?q104h⟩) hHeld ?q104r
        case q104h => (intro wq hSw; clear hSw; go_simp; try with_reducible rfl)
        try simp only [Act.put, List.setIfInBounds_toArray, List.set_cons_zero, List.set_cons_succ]
        refine wpAnyH_take (i := 4) (oi := { dst := some 14, op := Op.fieldAddr 31 (Operand.tmp 13) 0, type := 0, pos := "journal.go:33", after := #[{ on := 3, ground := Ground.data }], guard := none }) (v := ?q105v) rfl (by kernel_rfl) (by kernel_rfl) (by kernel_rfl) (fun _ _ _ h => h) (Or.inl ⟨by rfl, ?q105h⟩) hHeld ?q105r
        case q105h => (intro wq hSw; clear hSw; go_simp; try with_reducible rfl)
        try simp only [Act.put, List.setIfInBounds_toArray, List.set_cons_zero, List.set_cons_succ]
        refine wpAnyH_take (i := 5) (oi := { dst := some 15, op := Op.load 3 (Operand.tmp 14), type := 3, pos := "journal.go:33", after := #[{ on := 4, ground := Ground.data }], guard := none }) (v := ?q106v) rfl (by kernel_rfl) (by kernel_rfl) (by kernel_rfl) (fun _ _ _ h => h) (Or.inl ⟨by rfl, ?q106h⟩) hHeld ?q106r
        case q106h => (intro wq hSw; have hq := hSw.2 0 _ rfl; simp only [Nat.add_zero] at hq; clear hSw; go_simp; try with_reducible rfl)
        try simp only [Act.put, List.setIfInBounds_toArray, List.set_cons_zero, List.set_cons_succ]
        refine wpAnyH_take (i := 6) (oi := { dst := some 16, op := Op.fieldAddr 25 (Operand.tmp 1) 0, type := 0, pos := "journal.go:33", after := #[], guard := none }) (v := ?q107v) rfl (by kernel_rfl) (by kernel_rfl) (by kernel_rfl) (fun _ _ _ h => h) (Or.inl ⟨by rfl, ?q107h⟩) hHeld ?q107r
        case q107h => (intro wq hSw; clear hSw; go_simp; try with_reducible rfl)
        try simp only [Act.put, List.setIfInBounds_toArray, List.set_cons_zero, List.set_cons_succ]
        refine wpAnyH_take (i := 7) (oi := { dst := some 17, op := Op.load 3 (Operand.tmp 16), type := 3, pos := "journal.go:33", after := #[{ on := 6, ground := Ground.data }], guard := none }) (v := ?q108v) rfl (by kernel_rfl) (by kernel_rfl) (by kernel_rfl) (fun _ _ _ h => h) (Or.inl ⟨by rfl, ?q108h⟩) hHeld ?q108r
        case q108h => (intro wq hSw; have hq := hSw.1 0 _ rfl; simp only [Nat.zero_add] at hq; clear hSw; go_simp; try with_reducible rfl)
        try simp only [Act.put, List.setIfInBounds_toArray, List.set_cons_zero, List.set_cons_succ]
        refine wpAnyH_take (i := 8) (oi := { dst := some 18, op := Op.move (Operand.tmp 3), type := 3, pos := "journal.go:33", after := #[], guard := none }) (v := ?q109v) rfl (by kernel_rfl) (by kernel_rfl) (by kernel_rfl) (fun _ _ _ h => h) (Or.inl ⟨by rfl, ?q109h⟩) hHeld ?q109r
        case q109h => (intro wq hSw; clear hSw; go_simp; try with_reducible rfl)
        try simp only [Act.put, List.setIfInBounds_toArray, List.set_cons_zero, List.set_cons_succ]
        refine wpAnyH_take (i := 9) (oi := { dst := some 19, op := Op.binOp BinOp.add 3 (Operand.tmp 17) (Operand.tmp 18) 3, type := 3, pos := "journal.go:33", after := #[{ on := 7, ground := Ground.data }, { on := 8, ground := Ground.data }], guard := none }) (v := ?q110v) rfl (by kernel_rfl) (by kernel_rfl) (by kernel_rfl) (fun _ _ _ h => h) (Or.inl ⟨by rfl, ?q110h⟩) hHeld ?q110r
        case q110h => (intro wq hSw; clear hSw; go_simp; try with_reducible rfl)
        try simp only [Act.put, List.setIfInBounds_toArray, List.set_cons_zero, List.set_cons_succ]
        refine wpAnyH_take (i := 10) (oi := { dst := some 20, op := Op.binOp BinOp.neq 3 (Operand.tmp 15) (Operand.tmp 19) 3, type := 4, pos := "journal.go:33", after := #[{ on := 5, ground := Ground.data }, { on := 9, ground := Ground.data }], guard := none }) (v := .bool false) rfl (by kernel_rfl) (by kernel_rfl) (by kernel_rfl) (fun _ _ _ h => h) (Or.inl ⟨by rfl, ?q111h⟩) hHeld ?q111r
        case q111h => (intro wq hSw; clear hSw; go_simp; try with_reducible rfl)
        try simp only [Act.put, List.setIfInBounds_toArray, List.set_cons_zero, List.set_cons_succ]
        refine wpAnyH_take (i := 11) (oi := { dst := some 21, op := Op.move (Operand.tmp 20), type := 4, pos := "journal.go:33", after := #[{ on := 10, ground := Ground.data }], guard := none }) (v := ?q112v) rfl (by kernel_rfl) (by kernel_rfl) (by kernel_rfl) (fun _ _ _ h => h) (Or.inl ⟨by rfl, ?q112h⟩) hHeld ?q112r
        case q112h => (intro wq hSw; clear hSw; go_simp; try with_reducible rfl)
        try simp only [Act.put, List.setIfInBounds_toArray, List.set_cons_zero, List.set_cons_succ]
        refine wpAnyH_take (i := 12) (oi := { dst := some 22, op := Op.fieldAddr 25 (Operand.tmp 1) 1, type := 0, pos := "journal.go:33", after := #[{ on := 11, ground := Ground.guard }], guard := some (11, false) }) (v := ?q113v) rfl (by kernel_rfl) (by kernel_rfl) (by kernel_rfl) (fun _ _ _ h => h) (Or.inl ⟨by rfl, ?q113h⟩) hHeld ?q113r
        case q113h => (intro wq hSw; clear hSw; go_simp; try with_reducible rfl)
        try simp only [Act.put, List.setIfInBounds_toArray, List.set_cons_zero, List.set_cons_succ]
        refine wpAnyH_take (i := 13) (oi := { dst := some 23, op := Op.load 23 (Operand.tmp 22), type := 23, pos := "journal.go:33", after := #[{ on := 12, ground := Ground.data }, { on := 11, ground := Ground.guard }], guard := some (11, false) }) (v := ?q114v) rfl (by kernel_rfl) (by kernel_rfl) (by kernel_rfl) (fun _ _ _ h => h) (Or.inl ⟨by rfl, ?q114h⟩) hHeld ?q114r
        case q114h => (intro wq hSw; have hq := hSw.1 1 _ rfl; simp only [Nat.zero_add] at hq; clear hSw; go_simp; try with_reducible rfl)
        try simp only [Act.put, List.setIfInBounds_toArray, List.set_cons_zero, List.set_cons_succ]
        refine wpAnyH_take (i := 14) (oi := { dst := some 24, op := Op.move (Operand.tmp 3), type := 3, pos := "journal.go:33", after := #[{ on := 11, ground := Ground.guard }], guard := some (11, false) }) (v := ?q115v) rfl (by kernel_rfl) (by kernel_rfl) (by kernel_rfl) (fun _ _ _ h => h) (Or.inl ⟨by rfl, ?q115h⟩) hHeld ?q115r
        case q115h => (intro wq hSw; clear hSw; go_simp; try with_reducible rfl)
        try simp only [Act.put, List.setIfInBounds_toArray, List.set_cons_zero, List.set_cons_succ]
        refine wpAnyH_take (i := 15) (oi := { dst := some 25, op := Op.indexAddr 23 (Operand.tmp 23) (Operand.tmp 24), type := 0, pos := "journal.go:33", after := #[{ on := 13, ground := Ground.data }, { on := 14, ground := Ground.data }, { on := 11, ground := Ground.guard }], guard := some (11, false) }) (v := ?q116v) rfl (by kernel_rfl) (by kernel_rfl) (by kernel_rfl) (fun _ _ _ h => h) (Or.inl ⟨by rfl, ?q116h⟩) hHeld ?q116r
        case q116h => (intro wq hSw; clear hSw; go_simp; try with_reducible rfl)
        try simp only [Act.put, List.setIfInBounds_toArray, List.set_cons_zero, List.set_cons_succ]
        refine wpAnyH_take (i := 16) (oi := { dst := some 26, op := Op.load 31 (Operand.tmp 25), type := 31, pos := "journal.go:33", after := #[{ on := 15, ground := Ground.data }, { on := 11, ground := Ground.guard }], guard := some (11, false) }) rfl (by kernel_rfl) (by kernel_rfl) (by kernel_rfl) (fun _ _ _ h => h) (yieldsIf_load_mid (by rfl) 31 (.tmp 25) rfl g (off + k * 13) rfl (enCells y) _ (fun _ h => h.2) HUE.out rfl (info_en)) hHeld ?_
        try simp only [Act.put, List.setIfInBounds_toArray, List.set_cons_zero, List.set_cons_succ]
        refine wpAnyH_ready (rs := [17]) (by kernel_rfl) (by simp) ?_
        refine AllReadyH.cons (o := { dst := some 27, op := Op.call { callee := Callee.value (Operand.func 13), args := #[Operand.tmp 26], argTypes := #[31] }, type := 4, pos := "journal.go:33", after := #[{ on := 16, ground := Ground.data }, { on := 11, ground := Ground.chain }, { on := 11, ground := Ground.guard }], guard := some (11, false) }) rfl (fun K hK => ?_) (AllReadyH.nil)
        go_simp
        go_wp2_with (go_at_call 13; refine (HVy.out _).mono ?_; rintro e w21 ⟨rfl, hb⟩)
        have HS21 : Hid (Hp w [.ob (w.heap.size) 25 (lgCells (.slice (some ⟨g, off, none⟩) L.ents.length cap) L)] w21) := ((HY.out).drew).calls hb
        refine hK.out _ _ (⟨fun j v hv => by rw [Nat.zero_add]; exact HS21.out.at 0 rfl j hv, HRg.out _ HS21.out.old⟩) (fun hHeld => ?_)
        clear hK K hb
        try simp only [Act.put, List.setIfInBounds_toArray, List.set_cons_zero, List.set_cons_succ]
        refine wpAnyH_take (i := 18) (oi := { dst := some 28, op := Op.unOp UnOp.not 4 (Operand.tmp 27), type := 4, pos := "journal.go:33", after := #[{ on := 17, ground := Ground.data }, { on := 11, ground := Ground.guard }], guard := some (11, false) }) (v := ?q118v) rfl (by kernel_rfl) (by kernel_rfl) (by kernel_rfl) (fun _ _ _ h => h) (Or.inl ⟨by rfl, ?q118h⟩) hHeld ?q118r
        case q118h => (intro wq hSw; clear hSw; go_simp; try with_reducible rfl)
        try simp only [Act.put, List.setIfInBounds_toArray, List.set_cons_zero, List.set_cons_succ]
        refine wpAnyH_take (i := 19) (oi := { dst := some 29, op := Op.pick (Operand.tmp 21) (Operand.const (Value.bool true)) (Operand.tmp 28), type := 4, pos := "journal.go:33", after := #[{ on := 11, ground := Ground.data }, { on := 18, ground := Ground.data }], guard := none }) (v := ?q119v) rfl (by kernel_rfl) (by kernel_rfl) (by kernel_rfl) (fun _ _ _ h => h) (Or.inl ⟨by rfl, ?q119h⟩) hHeld ?q119r
        case q119h => (intro wq hSw; clear hSw; go_simp; try with_reducible rfl)
        try simp only [Act.put, List.setIfInBounds_toArray, List.set_cons_zero, List.set_cons_succ]
        refine wpAnyH_done (by kernel_rfl) ?_ _
        cases vb
        · have HZ := Lib.hid (HNo.out (by rw [HAt.out]; simp))
          go_wp2_with fail
          go_ret
          exact ⟨by rw [HZ.out]; rfl, HS21.out.old⟩
        · have HZ := Lib.hid (HYes.out (by rw [HAt.out, decide_eq_true HX.out]; rfl))
          go_wp2_with fail
          go_roundw
          case rel => exact ⟨k + 1, by omega, by go_num, HZ.out, HS21.out⟩
          case measure => simp [intOf]; omega
      · have hxb : (y.lsn != L.first + (k : Int)) = true := by simp [hx]
        have HX := Lib.hid (HNo.out (by rw [HAt.out, decide_eq_false hx]; rfl))
        clear hx
        go_upto_region 4 with (fail)
        refine wp_region_held_drew (S := fun w' => w'.rangeAt w.heap.size 0 (lgCells (.slice (some ⟨g, off, none⟩) L.ents.length cap) L) ∧ w'.rangeAt g (off + k * 13) (enCells y)) (by kernel_rfl) (⟨fun j v hv => by rw [Nat.zero_add]; exact (HY.out.drew).at 0 rfl j hv, HRg.out _ (HY.out.drew).old⟩) (fun hHeld => ?_)
        refine wpAnyH_take (i := 0) (oi := { dst := some 10, op := Op.fieldAddr 25 (Operand.tmp 1) 1, type := 0, pos := "journal.go:33", after := #[], guard := none }) (v := ?q201v) rfl (by kernel_rfl) (by kernel_rfl) (by kernel_rfl) (fun _ _ _ h => h) (Or.inl ⟨by rfl, ?q201h⟩) hHeld ?q201r
        case q201h => (intro wq hSw; clear hSw; go_simp; try with_reducible rfl)
        try simp only [Act.put, List.setIfInBounds_toArray, List.set_cons_zero, List.set_cons_succ]
        refine wpAnyH_take (i := 1) (oi := { dst := some 11, op := Op.load 23 (Operand.tmp 10), type := 23, pos := "journal.go:33", after := #[{ on := 0, ground := Ground.data }], guard := none }) (v := ?q202v) rfl (by kernel_rfl) (by kernel_rfl) (by kernel_rfl) (fun _ _ _ h => h) (Or.inl ⟨by rfl, ?q202h⟩) hHeld ?q202r
        case q202h => (intro wq hSw; have hq := hSw.1 1 _ rfl; simp only [Nat.zero_add] at hq; clear hSw; go_simp; try with_reducible rfl)
        try simp only [Act.put, List.setIfInBounds_toArray, List.set_cons_zero, List.set_cons_succ]
        refine wpAnyH_take (i := 2) (oi := { dst := some 12, op := Op.move (Operand.tmp 3), type := 3, pos := "journal.go:33", after := #[], guard := none }) (v := ?q203v) rfl (by kernel_rfl) (by kernel_rfl) (by kernel_rfl) (fun _ _ _ h => h) (Or.inl ⟨by rfl, ?q203h⟩) hHeld ?q203r
        case q203h => (intro wq hSw; clear hSw; go_simp; try with_reducible rfl)
        try simp only [Act.put, List.setIfInBounds_toArray, List.set_cons_zero, List.set_cons_succ]
        refine wpAnyH_take (i := 3) (oi := { dst := some 13, op := Op.indexAddr 23 (Operand.tmp 11) (Operand.tmp 12), type := 0, pos := "journal.go:33", after := #[{ on := 1, ground := Ground.data }, { on := 2, ground := Ground.data }], guard := none }) (v := ?q204v) rfl (by kernel_rfl) (by kernel_rfl) (by kernel_rfl) (fun _ _ _ h => h) (Or.inl ⟨by rfl, ?q204h⟩) hHeld ?q204r
        case q204h => (intro wq hSw; clear hSw; go_simp; try with_reducible rfl)
        try simp only [Act.put, List.setIfInBounds_toArray, List.set_cons_zero, List.set_cons_succ]
        refine wpAnyH_take (i := 4) (oi := { dst := some 14, op := Op.fieldAddr 31 (Operand.tmp 13) 0, type := 0, pos := "journal.go:33", after := #[{ on := 3, ground := Ground.data }], guard := none }) (v := ?q205v) rfl (by kernel_rfl) (by kernel_rfl) (by kernel_rfl) (fun _ _ _ h => h) (Or.inl ⟨by rfl, ?q205h⟩) hHeld ?q205r
        case q205h => (intro wq hSw; clear hSw; go_simp; try with_reducible rfl)
        try simp only [Act.put, List.setIfInBounds_toArray, List.set_cons_zero, List.set_cons_succ]
        refine wpAnyH_take (i := 5) (oi := { dst := some 15, op := Op.load 3 (Operand.tmp 14), type := 3, pos := "journal.go:33", after := #[{ on := 4, ground := Ground.data }], guard := none }) (v := ?q206v) rfl (by kernel_rfl) (by kernel_rfl) (by kernel_rfl) (fun _ _ _ h => h) (Or.inl ⟨by rfl, ?q206h⟩) hHeld ?q206r
        case q206h => (intro wq hSw; have hq := hSw.2 0 _ rfl; simp only [Nat.add_zero] at hq; clear hSw; go_simp; try with_reducible rfl)
        try simp only [Act.put, List.setIfInBounds_toArray, List.set_cons_zero, List.set_cons_succ]
        refine wpAnyH_take (i := 6) (oi := { dst := some 16, op := Op.fieldAddr 25 (Operand.tmp 1) 0, type := 0, pos := "journal.go:33", after := #[], guard := none }) (v := ?q207v) rfl (by kernel_rfl) (by kernel_rfl) (by kernel_rfl) (fun _ _ _ h => h) (Or.inl ⟨by rfl, ?q207h⟩) hHeld ?q207r
        case q207h => (intro wq hSw; clear hSw; go_simp; try with_reducible rfl)
        try simp only [Act.put, List.setIfInBounds_toArray, List.set_cons_zero, List.set_cons_succ]
        refine wpAnyH_take (i := 7) (oi := { dst := some 17, op := Op.load 3 (Operand.tmp 16), type := 3, pos := "journal.go:33", after := #[{ on := 6, ground := Ground.data }], guard := none }) (v := ?q208v) rfl (by kernel_rfl) (by kernel_rfl) (by kernel_rfl) (fun _ _ _ h => h) (Or.inl ⟨by rfl, ?q208h⟩) hHeld ?q208r
        case q208h => (intro wq hSw; have hq := hSw.1 0 _ rfl; simp only [Nat.zero_add] at hq; clear hSw; go_simp; try with_reducible rfl)
        try simp only [Act.put, List.setIfInBounds_toArray, List.set_cons_zero, List.set_cons_succ]
        refine wpAnyH_take (i := 8) (oi := { dst := some 18, op := Op.move (Operand.tmp 3), type := 3, pos := "journal.go:33", after := #[], guard := none }) (v := ?q209v) rfl (by kernel_rfl) (by kernel_rfl) (by kernel_rfl) (fun _ _ _ h => h) (Or.inl ⟨by rfl, ?q209h⟩) hHeld ?q209r
        case q209h => (intro wq hSw; clear hSw; go_simp; try with_reducible rfl)
        try simp only [Act.put, List.setIfInBounds_toArray, List.set_cons_zero, List.set_cons_succ]
        refine wpAnyH_take (i := 9) (oi := { dst := some 19, op := Op.binOp BinOp.add 3 (Operand.tmp 17) (Operand.tmp 18) 3, type := 3, pos := "journal.go:33", after := #[{ on := 7, ground := Ground.data }, { on := 8, ground := Ground.data }], guard := none }) (v := ?q210v) rfl (by kernel_rfl) (by kernel_rfl) (by kernel_rfl) (fun _ _ _ h => h) (Or.inl ⟨by rfl, ?q210h⟩) hHeld ?q210r
        case q210h => (intro wq hSw; clear hSw; go_simp; try with_reducible rfl)
        try simp only [Act.put, List.setIfInBounds_toArray, List.set_cons_zero, List.set_cons_succ]
        refine wpAnyH_take (i := 10) (oi := { dst := some 20, op := Op.binOp BinOp.neq 3 (Operand.tmp 15) (Operand.tmp 19) 3, type := 4, pos := "journal.go:33", after := #[{ on := 5, ground := Ground.data }, { on := 9, ground := Ground.data }], guard := none }) (v := .bool true) rfl (by kernel_rfl) (by kernel_rfl) (by kernel_rfl) (fun _ _ _ h => h) (Or.inl ⟨by rfl, ?q211h⟩) hHeld ?q211r
        case q211h => (intro wq hSw; clear hSw; go_simp; try with_reducible rfl)
        try simp only [Act.put, List.setIfInBounds_toArray, List.set_cons_zero, List.set_cons_succ]
        refine wpAnyH_take (i := 11) (oi := { dst := some 21, op := Op.move (Operand.tmp 20), type := 4, pos := "journal.go:33", after := #[{ on := 10, ground := Ground.data }], guard := none }) (v := ?q212v) rfl (by kernel_rfl) (by kernel_rfl) (by kernel_rfl) (fun _ _ _ h => h) (Or.inl ⟨by rfl, ?q212h⟩) hHeld ?q212r
        case q212h => (intro wq hSw; clear hSw; go_simp; try with_reducible rfl)
        try simp only [Act.put, List.setIfInBounds_toArray, List.set_cons_zero, List.set_cons_succ]
        refine wpAnyH_take (i := 12) (oi := { dst := some 22, op := Op.fieldAddr 25 (Operand.tmp 1) 1, type := 0, pos := "journal.go:33", after := #[{ on := 11, ground := Ground.guard }], guard := some (11, false) }) (v := undef) rfl (by kernel_rfl) (by kernel_rfl) (by kernel_rfl) (fun _ _ _ h => h) (Or.inr ⟨by rfl, rfl⟩) hHeld ?_
        try simp only [Act.put, List.setIfInBounds_toArray, List.set_cons_zero, List.set_cons_succ]
        refine wpAnyH_take (i := 13) (oi := { dst := some 23, op := Op.load 23 (Operand.tmp 22), type := 23, pos := "journal.go:33", after := #[{ on := 12, ground := Ground.data }, { on := 11, ground := Ground.guard }], guard := some (11, false) }) (v := undef) rfl (by kernel_rfl) (by kernel_rfl) (by kernel_rfl) (fun _ _ _ h => h) (Or.inr ⟨by rfl, rfl⟩) hHeld ?_
        try simp only [Act.put, List.setIfInBounds_toArray, List.set_cons_zero, List.set_cons_succ]
        refine wpAnyH_take (i := 14) (oi := { dst := some 24, op := Op.move (Operand.tmp 3), type := 3, pos := "journal.go:33", after := #[{ on := 11, ground := Ground.guard }], guard := some (11, false) }) (v := undef) rfl (by kernel_rfl) (by kernel_rfl) (by kernel_rfl) (fun _ _ _ h => h) (Or.inr ⟨by rfl, rfl⟩) hHeld ?_
        try simp only [Act.put, List.setIfInBounds_toArray, List.set_cons_zero, List.set_cons_succ]
        refine wpAnyH_take (i := 15) (oi := { dst := some 25, op := Op.indexAddr 23 (Operand.tmp 23) (Operand.tmp 24), type := 0, pos := "journal.go:33", after := #[{ on := 13, ground := Ground.data }, { on := 14, ground := Ground.data }, { on := 11, ground := Ground.guard }], guard := some (11, false) }) (v := undef) rfl (by kernel_rfl) (by kernel_rfl) (by kernel_rfl) (fun _ _ _ h => h) (Or.inr ⟨by rfl, rfl⟩) hHeld ?_
        try simp only [Act.put, List.setIfInBounds_toArray, List.set_cons_zero, List.set_cons_succ]
        refine wpAnyH_take (i := 16) (oi := { dst := some 26, op := Op.load 31 (Operand.tmp 25), type := 31, pos := "journal.go:33", after := #[{ on := 15, ground := Ground.data }, { on := 11, ground := Ground.guard }], guard := some (11, false) }) (v := undef) rfl (by kernel_rfl) (by kernel_rfl) (by kernel_rfl) (fun _ _ _ h => h) (Or.inr ⟨by rfl, rfl⟩) hHeld ?_
        try simp only [Act.put, List.setIfInBounds_toArray, List.set_cons_zero, List.set_cons_succ]
        refine wpAnyH_ready (rs := [17]) (by kernel_rfl) (by simp) ?_
        refine AllReadyH.cons (o := { dst := some 27, op := Op.call { callee := Callee.value (Operand.func 13), args := #[Operand.tmp 26], argTypes := #[31] }, type := 4, pos := "journal.go:33", after := #[{ on := 16, ground := Ground.data }, { on := 11, ground := Ground.chain }, { on := 11, ground := Ground.guard }], guard := some (11, false) }) rfl (fun K hK => ?_) (AllReadyH.nil)
        rw [if_neg (by exact Bool.false_ne_true)]
        have HS21 : Hid (Hp w [.ob (w.heap.size) 25 (lgCells (.slice (some ⟨g, off, none⟩) L.ents.length cap) L)] (wr.drew)) := (HY.out).drew
        refine hK.out _ _ (⟨fun j v hv => by rw [Nat.zero_add]; exact HS21.out.at 0 rfl j hv, HRg.out _ HS21.out.old⟩) (fun hHeld => ?_)
        clear hK K
        generalize wr.drew = w21 at *
        try simp only [Act.put, List.setIfInBounds_toArray, List.set_cons_zero, List.set_cons_succ]
        refine wpAnyH_take (i := 18) (oi := { dst := some 28, op := Op.unOp UnOp.not 4 (Operand.tmp 27), type := 4, pos := "journal.go:33", after := #[{ on := 17, ground := Ground.data }, { on := 11, ground := Ground.guard }], guard := some (11, false) }) (v := undef) rfl (by kernel_rfl) (by kernel_rfl) (by kernel_rfl) (fun _ _ _ h => h) (Or.inr ⟨by rfl, rfl⟩) hHeld ?_
        try simp only [Act.put, List.setIfInBounds_toArray, List.set_cons_zero, List.set_cons_succ]
        refine wpAnyH_take (i := 19) (oi := { dst := some 29, op := Op.pick (Operand.tmp 21) (Operand.const (Value.bool true)) (Operand.tmp 28), type := 4, pos := "journal.go:33", after := #[{ on := 11, ground := Ground.data }, { on := 18, ground := Ground.data }], guard := none }) (v := ?q219v) rfl (by kernel_rfl) (by kernel_rfl) (by kernel_rfl) (fun _ _ _ h => h) (Or.inl ⟨by rfl, ?q219h⟩) hHeld ?q219r
        case q219h => (intro wq hSw; clear hSw; go_simp; try with_reducible rfl)
        try simp only [Act.put, List.setIfInBounds_toArray, List.set_cons_zero, List.set_cons_succ]
        refine wpAnyH_done (by kernel_rfl) ?_ _
        go_wp2_with fail
        go_ret
        exact ⟨by rw [HX.out]; rfl, HS21.out.old⟩
    · obtain rfl : k = L.ents.length := by omega
      have HFt : Hid (ordB L.first L.ents = true) := HH.out
      clear HH hk hlt
      go_wp2_with fail
      go_ret
      exact ⟨by rw [HFt.out]; rfl, HY.out.old⟩
end Go.Proofs.YtpmfdpkcnldpiaaDoor
