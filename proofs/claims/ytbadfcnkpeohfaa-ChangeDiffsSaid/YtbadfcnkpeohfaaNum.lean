/- numbers as bytes, texts, and small facts on conversions: no walk -/
import Derived.Test.YtbadfcnkpeohfaaRows
import Derived.WalkKit
import Derived.WalkSpells
import Derived.WalkLawsBesides
import Derived.Lib.Hide
import Derived.Below
import Derived.LoopN
import Derived.ProofKit
import Derived.OpenShut
namespace Go.Proofs.Ytbadfcnkpeohfaa
open Go.ChangeShapes Go.WideShapes Go.ChangeAt Go.RowKit


/-- byte k of a number -/
def leB (n : Int) (k : Nat) : UInt8 := UInt8.ofNat (n / 2 ^ (8 * k) % 256).toNat
theorem leB_toNat (n : Int) (k : Nat) : ((leB n k).toNat : Int) = n / 2 ^ (8 * k) % 256 := by
  unfold leB
  have h0 := Int.emod_nonneg (n / 2 ^ (8 * k)) (show (256 : Int) ≠ 0 by decide)
  have h1 := Int.emod_lt_of_pos (n / 2 ^ (8 * k)) (show (0 : Int) < 256 by decide)
  generalize n / 2 ^ (8 * k) % 256 = x at *
  rw [UInt8.toNat_ofNat']
  omega
/-- the lowest k bytes of a number -/
def leL (n : Int) (k : Nat) : List UInt8 := (List.range k).map (leB n)
def leS (n : Int) (k : Nat) : ByteArray := ⟨(leL n k).toArray⟩
theorem leL_length (n : Int) (k : Nat) : (leL n k).length = k := by simp [leL]
theorem leS_size (n : Int) (k : Nat) : (leS n k).size = k := by
  show (leL n k).toArray.size = k
  simp [leL_length]
theorem leL_succ (n : Int) (k : Nat) : leL n (k + 1) = leL n k ++ [leB n k] := by
  unfold leL; rw [List.range_succ, List.map_append]; rfl
theorem leL_getD (n : Int) (k j : Nat) (h : j < k) : (leL n k)[j]'(by rw [leL_length]; exact h) = leB n j := by
  simp [leL]
theorem str_eq {a b : ByteArray} (h : a.data.toList = b.data.toList) : a = b := by
  apply ByteArray.ext; apply Array.toList_inj.1; exact h
theorem str_app (a b : ByteArray) : (a ++ b).data.toList = a.data.toList ++ b.data.toList := by
  rw [ByteArray.data_append, Array.toList_append]
theorem ret_str {a b : ByteArray} (h : a = b) : Ending.returned (.string a) = .returned (.string b) := by rw [h]
theorem byte_of_u64 (n : Int) (k : Nat) (hk : k < 8) : IntKind.u64.wrap n / 2 ^ (8 * k) % 256 = ((leB n k).toNat : Int) := by
  rw [IntKind.wrap_u64, leB_toNat]
  match k, hk with
  | 0, _ => simp only [Nat.mul_zero, Int.pow_zero]; omega
  | 1, _ => simp only [show (2 : Int) ^ (8 * 1) = 256 from by decide]; omega
  | 2, _ => simp only [show (2 : Int) ^ (8 * 2) = 65536 from by decide]; omega
  | 3, _ => simp only [show (2 : Int) ^ (8 * 3) = 16777216 from by decide]; omega
  | 4, _ => simp only [show (2 : Int) ^ (8 * 4) = 4294967296 from by decide]; omega
  | 5, _ => simp only [show (2 : Int) ^ (8 * 5) = 1099511627776 from by decide]; omega
  | 6, _ => simp only [show (2 : Int) ^ (8 * 6) = 281474976710656 from by decide]; omega
  | 7, _ => simp only [show (2 : Int) ^ (8 * 7) = 72057594037927936 from by decide]; omega
/-- a text of one byte -/
theorem conv_one (w : World) (b : UInt8) : Sem.run Try.prog (convert 22 9 (.slice (some ⟨w.heap.size, 0, none⟩) 1 1)) (w.alloc (.cells #[.int .u8 (b.toNat : Int)] 5)) = .ok (.string ⟨#[b]⟩) (w.alloc (.cells #[.int .u8 (b.toNat : Int)] 5)) :=
  run_convert_bytes_back (P := Try.prog) (w.alloc (.cells #[.int .u8 (b.toNat : Int)] 5)) 22 9 5 ⟨w.heap.size, 0, none⟩ 1 [b] Try.underlying22 Try.underlying5 Try.underlying9 (fun j hj => by
    have : j = 0 := by simpa using hj
    subst this
    show (w.alloc _).cell? ⟨w.heap.size, 0, none⟩ = _
    rw [World.cell?_alloc_new]; rfl)
/-- the number in bytes, without a sign -/
def leNum (s : ByteArray) (at_ : Nat) : Nat → Nat
  | 0 => 0
  | k + 1 => leNum s at_ k + (s.data.toList.getD (at_ + k) 0).toNat * 256 ^ k
theorem leNum_lt (s : ByteArray) (at_ k : Nat) : leNum s at_ k < 256 ^ k := by
  induction k with
  | zero => simp [leNum]
  | succ k ih =>
    have hb : (s.data.toList.getD (at_ + k) 0).toNat ≤ 255 := by have := (s.data.toList.getD (at_ + k) 0).toNat_lt; omega
    have hm := Nat.mul_le_mul_right (256 ^ k) hb
    rw [leNum, Nat.pow_succ]
    omega
theorem getD_at (s : ByteArray) (i : Nat) (h : i < s.size) : s.data.toList.getD i 0 = s[i] := by
  have h' : i < s.data.toList.length := by simpa using h
  rw [List.getD_eq_getElem?_getD, List.getElem?_eq_getElem h', Option.getD_some]; rfl
theorem ofInt_wrap (k : IntKind) (x : Int) : BitVec.ofInt k.bits (k.wrap x) = BitVec.ofInt k.bits x := by
  apply BitVec.eq_of_toInt_eq
  rw [BitVec.toInt_ofInt, BitVec.toInt_ofInt]
  have : (k.wrap x) % (2 ^ k.bits : Nat) = x % (2 ^ k.bits : Nat) := by
    unfold IntKind.wrap
    simp only []
    split
    · rw [show ((2 : Int) ^ k.bits) = ((2 ^ k.bits : Nat) : Int) from by simp, Int.sub_emod_right, Int.emod_emod]
    · rw [show ((2 : Int) ^ k.bits) = ((2 ^ k.bits : Nat) : Int) from by simp, Int.emod_emod]
  rw [← Int.emod_bmod, this, Int.emod_bmod]
theorem w64 (n : Int) : IntKind.i64.wrap n = wrap64 n := by rw [IntKind.wrap_i64]; unfold wrap64; rfl
/-- a byte more, by 'or': whatever the kind of 64 bits -/
theorem or_nat (X b k : Nat) (hX : X < 256 ^ k) (hb : b < 256) (hk : k < 8) :
    (BitVec.ofInt 64 (X : Int) ||| BitVec.ofInt 64 ((b : Int) * 2 ^ (8 * k))).toNat = X + b * 256 ^ k := by
  have e1 : (2 : Int) ^ (8 * k) = ((256 ^ k : Nat) : Int) := by
    rw [show (256 : Nat) = 2 ^ 8 from rfl, ← Nat.pow_mul]; simp
  have e2 : (b : Int) * 2 ^ (8 * k) = ((b * 256 ^ k : Nat) : Int) := by rw [e1]; simp
  have hle : 256 ^ k * 256 ≤ 2 ^ 64 := by
    have : 256 ^ (k + 1) ≤ 256 ^ 8 := Nat.pow_le_pow_right (by decide) (by omega)
    rw [Nat.pow_succ] at this
    exact this
  have hbk : b * 256 ^ k ≤ 255 * 256 ^ k := Nat.mul_le_mul_right _ (by omega)
  rw [e2, BitVec.ofInt_natCast, BitVec.ofInt_natCast, BitVec.toNat_or, BitVec.toNat_ofNat, BitVec.toNat_ofNat, Nat.mod_eq_of_lt (by omega), Nat.mod_eq_of_lt (by omega)]
  have e3 : 256 ^ k = 2 ^ (8 * k) := by rw [show (256 : Nat) = 2 ^ 8 from rfl, ← Nat.pow_mul]
  rw [e3] at hX ⊢
  rw [Nat.or_comm, Nat.mul_comm b, ← Nat.two_pow_add_eq_or_of_lt hX, Nat.add_comm]
theorem or_i64 (X b k : Nat) (hX : X < 256 ^ k) (hb : b < 256) (hk : k < 8) :
    bits .or .i64 (wrap64 (X : Int)) (wrap64 (wrap64 (b : Int) * 2 ^ (8 * k))) = wrap64 ((X + b * 256 ^ k : Nat) : Int) := by
  have w1 : wrap64 (b : Int) = (b : Int) := IntWalk.wrap64_in _ ⟨by omega, by omega⟩
  rw [w1]
  show IntKind.i64.wrap ((BitVec.ofInt 64 (wrap64 (X : Int)) ||| BitVec.ofInt 64 (wrap64 ((b : Int) * 2 ^ (8 * k)))).toNat : Int) = _
  have a1 : BitVec.ofInt 64 (wrap64 (X : Int)) = BitVec.ofInt 64 (X : Int) := by rw [← w64]; exact ofInt_wrap .i64 _
  have a2 : BitVec.ofInt 64 (wrap64 ((b : Int) * 2 ^ (8 * k))) = BitVec.ofInt 64 ((b : Int) * 2 ^ (8 * k)) := by rw [← w64]; exact ofInt_wrap .i64 _
  rw [a1, a2, or_nat X b k hX hb hk, w64]
theorem wrap64_0 : wrap64 0 = 0 := IntWalk.wrap64_in 0 (by omega)
theorem or_u64 (X b k : Nat) (hX : X < 256 ^ k) (hb : b < 256) (hk : k < 8) :
    bits .or .u64 (X : Int) (IntKind.u64.wrap (IntKind.u64.wrap (b : Int) * 2 ^ (8 * k))) = ((X + b * 256 ^ k : Nat) : Int) := by
  have w1 : IntKind.u64.wrap (b : Int) = (b : Int) := by rw [IntKind.wrap_u64]; omega
  rw [w1]
  show IntKind.u64.wrap ((BitVec.ofInt 64 (X : Int) ||| BitVec.ofInt 64 (IntKind.u64.wrap ((b : Int) * 2 ^ (8 * k)))).toNat : Int) = _
  have a2 : BitVec.ofInt 64 (IntKind.u64.wrap ((b : Int) * 2 ^ (8 * k))) = BitVec.ofInt 64 ((b : Int) * 2 ^ (8 * k)) := ofInt_wrap .u64 _
  rw [a2]
  have hlt := (BitVec.ofInt 64 (X : Int) ||| BitVec.ofInt 64 ((b : Int) * 2 ^ (8 * k))).isLt
  rw [or_nat X b k hX hb hk] at hlt ⊢
  rw [IntKind.wrap_u64]
  omega
theorem u64_in (x : Nat) (h : x < 18446744073709551616) : IntKind.u64.wrap (x : Int) = (x : Int) := by rw [IntKind.wrap_u64]; omega
/-- what Get answers, for every text and all numbers -/
def getR (s : ByteArray) (a z : Int) : Int × Int :=
  if (z < 1 ∨ 8 < z) ∨ a < 0 then (0, 1) else if (s.size : Int) < a + z then (0, 5) else (wrap64 (leNum s a.toNat z.toNat), 0)
/-- what Put answers -/
def putR (s : ByteArray) (n z : Int) : ByteArray := if z < 1 ∨ 8 < z then s else s ++ leS n z.toNat
/-- a text of one byte, at any world -/
theorem conv_at (W : World) (A : Nat) (y : Int) (y0 : 0 ≤ y) (y1 : y ≤ 255) (h : W.cell? ⟨A, 0, none⟩ = some (.int .u8 y)) : Sem.run Try.prog (convert 22 9 (.slice (some ⟨A, 0, none⟩) 1 1)) W = .ok (.string ⟨#[UInt8.ofNat y.toNat]⟩) W := by
  refine run_convert_bytes_back (P := Try.prog) W 22 9 5 ⟨A, 0, none⟩ 1 [UInt8.ofNat y.toNat] Try.underlying22 Try.underlying5 Try.underlying9 (fun j hj => ?_)
  have : j = 0 := by simpa using hj
  subst this
  show W.cell? ⟨A, 0, none⟩ = _
  rw [h]
  show some (Value.int .u8 y) = some (Value.int .u8 (((UInt8.ofNat y.toNat).toNat : Nat) : Int))
  rw [UInt8.toNat_ofNat', show ((y.toNat % 2 ^ 8 : Nat) : Int) = y from by omega]
theorem xor_in (a b : Int) : 0 ≤ bits .xor .u8 a b ∧ bits .xor .u8 a b ≤ 255 := by
  show 0 ≤ IntKind.u8.wrap ((BitVec.ofInt 8 a ^^^ BitVec.ofInt 8 b).toNat : Int) ∧ IntKind.u8.wrap ((BitVec.ofInt 8 a ^^^ BitVec.ofInt 8 b).toNat : Int) ≤ 255
  rw [IntKind.wrap_u8']
  omega
theorem conv_ex (w : World) (a b : Int) : ∃ (y : Int) (u : UInt8), bits .xor .u8 a b = y ∧ Sem.run Try.prog (convert 22 9 (.slice (some ⟨w.heap.size, 0, none⟩) 1 1)) (w.alloc (.cells #[.int .u8 y] 5)) = .ok (.string ⟨#[u]⟩) (w.alloc (.cells #[.int .u8 y] 5)) :=
  ⟨_, _, rfl, conv_at _ _ _ (xor_in a b).1 (xor_in a b).2 (by rw [World.cell?_alloc_new]; rfl)⟩
theorem size_one (b : UInt8) : (⟨#[b]⟩ : ByteArray).size = 1 := rfl
theorem byte_of_wf {n : Int} (h : (Lit.int .u8 n).wf = true) : ∃ b : UInt8, n = (b.toNat : Int) := by
  have := bounds_u8 h
  refine ⟨UInt8.ofNat n.toNat, ?_⟩
  rw [UInt8.toNat_ofNat']
  omega

theorem leNum_of (s : ByteArray) (a : Nat) (n : Int) (k : Nat) (h : ∀ i, i < k → s.data.toList.getD (a + i) 0 = leB n i) : (leNum s a k : Int) = n % 2 ^ (8 * k) := by
  induction k with
  | zero => simp [leNum, Int.emod_one]
  | succ k ih =>
    have ih' := ih (fun i hi => h i (by omega))
    rw [leNum, h k (by omega)]
    have hb := leB_toNat n k
    have e1 : (2 : Int) ^ (8 * (k + 1)) = 2 ^ (8 * k) * 256 := by rw [show 8 * (k + 1) = 8 * k + 8 from by omega, Int.pow_add]; rfl
    have e2 : ((256 ^ k : Nat) : Int) = 2 ^ (8 * k) := by rw [show (256 : Nat) = 2 ^ 8 from rfl, ← Nat.pow_mul]; simp
    have hp : (0 : Int) < 2 ^ (8 * k) := Int.pow_pos (by decide)
    rw [Int.natCast_add, Int.natCast_mul, e2, ih', hb, e1]
    generalize (2 : Int) ^ (8 * k) = q at *
    have c0 := Int.emod_add_mul_ediv n q
    have c1 := Int.emod_add_mul_ediv (n / q) 256
    have b0 := Int.emod_nonneg n (show q ≠ 0 by omega)
    have b1 := Int.emod_lt_of_pos n hp
    have b2 := Int.emod_nonneg (n / q) (show (256 : Int) ≠ 0 by decide)
    have b3 := Int.emod_lt_of_pos (n / q) (show (0 : Int) < 256 by decide)
    have hn : n = (n % q + q * (n / q % 256)) + q * 256 * (n / q / 256) := by
      rw [Int.mul_assoc, Int.add_assoc, ← Int.mul_add, c1, c0]
    have hr0 : 0 ≤ n % q + q * (n / q % 256) := Int.add_nonneg b0 (Int.mul_nonneg (by omega) b2)
    have hr1 : n % q + q * (n / q % 256) < q * 256 := by
      have : q * (n / q % 256) ≤ q * 255 := Int.mul_le_mul_of_nonneg_left (by omega) (by omega)
      omega
    conv => rhs; rw [hn]
    rw [Int.add_mul_emod_self_left, Int.emod_eq_of_lt hr0 hr1, Int.mul_comm]

theorem leNum_congr (s t : ByteArray) (a : Nat) (k : Nat) (h : ∀ i, i < k → s.data.toList.getD (a + i) 0 = t.data.toList.getD (a + i) 0) : leNum s a k = leNum t a k := by
  induction k with
  | zero => rfl
  | succ k ih => rw [leNum, leNum, ih (fun i hi => h i (by omega)), h k (by omega)]
theorem leNum_inj (s t : ByteArray) (a : Nat) (k : Nat) (h : leNum s a k = leNum t a k) : ∀ i, i < k → s.data.toList.getD (a + i) 0 = t.data.toList.getD (a + i) 0 := by
  induction k with
  | zero => intro i hi; omega
  | succ k ih =>
    rw [leNum, leNum] at h
    have h1 := leNum_lt s a k
    have h2 := leNum_lt t a k
    have hp : 0 < 256 ^ k := Nat.pow_pos (by decide)
    have e1 := congrArg (fun x => x / 256 ^ k) h
    have e2 := congrArg (fun x => x % 256 ^ k) h
    simp only [Nat.add_mul_div_right _ _ hp, Nat.div_eq_of_lt h1, Nat.div_eq_of_lt h2, Nat.zero_add] at e1
    simp only [Nat.add_mul_mod_self_right, Nat.mod_eq_of_lt h1, Nat.mod_eq_of_lt h2] at e2
    intro i hi
    by_cases hk : i = k
    · subst hk; exact UInt8.toNat_inj.1 e1
    · exact ih e2 i (by omega)
theorem size_list (s : ByteArray) : s.data.toList.length = s.size := by simp
theorem extract_list (s : ByteArray) (a b : Nat) : (s.extract a b).data.toList = (s.data.toList.take b).drop a := by
  rw [ByteArray.data_extract, Array.toList_extract, List.extract_eq_take_drop, List.take_drop]
  by_cases h : a ≤ b
  · rw [Nat.add_sub_cancel' h]
  · rw [show a + (b - a) = a from by omega]
    have h1 : (List.take a s.data.toList).drop a = [] := List.drop_eq_nil_of_le (by simp; omega)
    have h2 : (List.take b s.data.toList).drop a = [] := List.drop_eq_nil_of_le (by simp; omega)
    rw [h1, h2]
theorem leL_get (n : Int) (k i : Nat) (h : i < k) : (leL n k).getD i 0 = leB n i := by
  rw [List.getD_eq_getElem?_getD, List.getElem?_eq_getElem (by rw [leL_length]; exact h), Option.getD_some, leL_getD n k i h]
theorem getD_left (a b : List UInt8) (i : Nat) (h : i < a.length) : (a ++ b).getD i 0 = a.getD i 0 := by
  rw [List.getD_eq_getElem?_getD, List.getElem?_append_left h, ← List.getD_eq_getElem?_getD]
theorem getD_right (a b : List UInt8) (i : Nat) : (a ++ b).getD (a.length + i) 0 = b.getD i 0 := by
  rw [List.getD_eq_getElem?_getD, List.getElem?_append_right (by omega), Nat.add_sub_cancel_left, ← List.getD_eq_getElem?_getD]

/-- a slice of integers that came in: nil, or a row of cells with the numbers zs -/
def IsRow (k : IntKind) (w : World) (a : Option Addr) (len cap : Nat) (zs : List Int) : Prop :=
  (a = none ∧ len = 0 ∧ cap = 0 ∧ zs = []) ∨
  ∃ x, a = some x ∧ len ≤ cap ∧ cap ≤ maxLen ∧ zs.length = cap ∧ (∀ i, i < zs.length → w.cell? (x.add i) = some (.int k (zs.getD i 0))) ∧ ∀ n ∈ zs, (Lit.int k n).wf = true
end Go.Proofs.Ytbadfcnkpeohfaa
