/- plain facts on CRC-32C: bit by bit, by half bytes, and that a change of up to four neighbouring bytes is noticed -/
namespace Go.Proofs.YtoceglomogcgcaaDoor
namespace Crc

def poly : BitVec 32 := 0x82F63B78#32
/-- one bit of the division -/
def bit1 (c : BitVec 32) : BitVec 32 := (c >>> 1) ^^^ (if c.getLsbD 0 then poly else 0#32)
def bitN : Nat → BitVec 32 → BitVec 32
  | 0, c => c
  | k + 1, c => bitN k (bit1 c)

theorem bit1_xor (a b : BitVec 32) : bit1 (a ^^^ b) = bit1 a ^^^ bit1 b := by
  unfold bit1
  rw [BitVec.ushiftRight_xor_distrib, BitVec.getLsbD_xor]
  generalize a >>> 1 = x
  generalize b >>> 1 = y
  have e : (x ^^^ poly) ^^^ (y ^^^ poly) = x ^^^ y := by
    have : (x ^^^ poly) ^^^ (y ^^^ poly) = (x ^^^ y) ^^^ (poly ^^^ poly) := by ac_rfl
    rw [this, BitVec.xor_self, BitVec.xor_zero]
  cases a.getLsbD 0 <;> cases b.getLsbD 0 <;> simp only [Bool.xor_false, Bool.xor_true, Bool.not_false, Bool.not_true, if_true, if_false, Bool.false_eq_true, BitVec.xor_zero]
  · ac_rfl
  · ac_rfl
  · exact e.symm

theorem bitN_xor (k : Nat) : ∀ a b : BitVec 32, bitN k (a ^^^ b) = bitN k a ^^^ bitN k b := by
  induction k with
  | zero => intro a b; rfl
  | succ k ih => intro a b; simp only [bitN, bit1_xor, ih]

theorem bit1_zero : bit1 0#32 = 0#32 := by decide
theorem bitN_zero (k : Nat) : bitN k 0#32 = 0#32 := by
  induction k with
  | zero => rfl
  | succ k ih => simp only [bitN, bit1_zero, ih]

theorem bitN_add (j k : Nat) : ∀ c, bitN (j + k) c = bitN k (bitN j c) := by
  induction j with
  | zero => intro c; simp [bitN]
  | succ j ih => intro c; rw [show j + 1 + k = (j + k) + 1 from by omega]; simp only [bitN, ih]

/-- a step loses nothing: only zero becomes zero -/
theorem bit1_eq_zero {c : BitVec 32} (h : bit1 c = 0#32) : c = 0#32 := by
  have hmsb : (c >>> 1).getLsbD 31 = false := by simp
  cases h0 : c.getLsbD 0 with
  | true =>
    unfold bit1 at h
    rw [h0] at h
    simp only [if_true] at h
    have h2 : c >>> 1 = poly := by
      have := congrArg (· ^^^ poly) h
      simpa [BitVec.xor_assoc] using this
    rw [h2] at hmsb
    exact absurd hmsb (by decide)
  | false =>
    unfold bit1 at h
    rw [h0] at h
    simp only [Bool.false_eq_true, if_false, BitVec.xor_zero] at h
    apply BitVec.eq_of_getLsbD_eq
    intro i hi
    cases i with
    | zero => simpa using h0
    | succ i =>
      have := congrArg (fun x => x.getLsbD i) h
      simpa [Nat.add_comm] using this
theorem bitN_eq_zero (k : Nat) : ∀ {c : BitVec 32}, bitN k c = 0#32 → c = 0#32 := by
  induction k with
  | zero => intro c h; exact h
  | succ k ih => intro c h; exact bit1_eq_zero (ih h)

/-- while only zeros leave at the low end, a step is a shift -/
theorem bitN_shift (k : Nat) : ∀ c : BitVec 32, (∀ i, i < k → c.getLsbD i = false) → bitN k c = c >>> k := by
  induction k with
  | zero => intro c _; simp [bitN]
  | succ k ih =>
    intro c h
    have h0 : bit1 c = c >>> 1 := by unfold bit1; rw [h 0 (by omega)]; simp
    simp only [bitN, h0]
    rw [ih]
    · rw [← BitVec.shiftRight_add, Nat.add_comm]
    · intro i hi
      have := h (i + 1) (by omega)
      simpa [Nat.add_comm] using this

/-- the remainders of the half bytes -/
def tab : List Nat := [0, 274646895, 549293790, 820201905, 1098587580, 1361435347, 1640403810, 1905808397, 2197175160, 2460548119, 2722870694, 2987750089, 3280807620, 3553878443, 3811616794, 4084100981]
def tabv (i : Nat) : BitVec 32 := BitVec.ofNat 32 (tab.getD i 0)
def low4 (c : BitVec 32) : Nat := (c &&& 15#32).toNat
def by32 (b : UInt8) : BitVec 32 := BitVec.ofNat 32 b.toNat
theorem low4_lt (c : BitVec 32) : low4 c < 16 := by
  unfold low4
  rw [BitVec.toNat_and]
  exact Nat.lt_of_le_of_lt Nat.and_le_right (by decide)
def half (c : BitVec 32) : BitVec 32 := (c >>> 4) ^^^ tabv (low4 c)
theorem tab_right : ∀ i : Fin 16, bitN 4 (BitVec.ofNat 32 i.val) = BitVec.ofNat 32 (tab.getD i.val 0) := by decide +kernel
theorem half_eq (c : BitVec 32) : half c = bitN 4 c := by
  have hs : c = (c &&& 0xFFFFFFF0#32) ^^^ (c &&& 15#32) := by
    apply BitVec.eq_of_getLsbD_eq
    intro i hi
    simp only [BitVec.getLsbD_xor, BitVec.getLsbD_and]
    have hm : ∀ j : Fin 32, ((0xFFFFFFF0#32).getLsbD j.val ^^ (15#32).getLsbD j.val) = true := by decide
    have := hm ⟨i, hi⟩
    simp only at this
    cases h1 : c.getLsbD i <;> cases h2 : (0xFFFFFFF0#32).getLsbD i <;> cases h3 : (15#32).getLsbD i <;> simp_all
  have hl : (c &&& 15#32).toNat < 16 := by
    rw [BitVec.toNat_and]
    exact Nat.lt_of_le_of_lt Nat.and_le_right (by decide)
  have e1 : bitN 4 (c &&& 0xFFFFFFF0#32) = c >>> 4 := by
    rw [bitN_shift]
    · apply BitVec.eq_of_getLsbD_eq
      intro i hi
      simp only [BitVec.getLsbD_ushiftRight, BitVec.getLsbD_and]
      by_cases h : 4 + i < 32
      · have hm : ∀ j : Fin 28, (0xFFFFFFF0#32).getLsbD (4 + j.val) = true := by decide
        have := hm ⟨i, by omega⟩
        simp only at this
        rw [this, Bool.and_true]
      · rw [BitVec.getLsbD_of_ge c _ (by omega)]; rfl
    · intro i hi
      rw [BitVec.getLsbD_and]
      have hm : ∀ j : Fin 4, (0xFFFFFFF0#32).getLsbD j.val = false := by decide
      have := hm ⟨i, hi⟩
      simp only at this
      rw [this, Bool.and_false]
  have e2 : bitN 4 (c &&& 15#32) = BitVec.ofNat 32 (tab.getD (c &&& 15#32).toNat 0) := by
    have := tab_right ⟨(c &&& 15#32).toNat, hl⟩
    simp only at this
    rw [← this]
    congr 1
    rw [BitVec.ofNat_toNat]; simp
  unfold half tabv low4
  rw [← e2]
  conv => rhs; rw [hs, bitN_xor, e1]

/-- one byte -/
def byte1 (c : BitVec 32) (b : UInt8) : BitVec 32 := bitN 8 (c ^^^ BitVec.ofNat 32 b.toNat)
theorem byte1_half (c : BitVec 32) (b : UInt8) : half (half (c ^^^ BitVec.ofNat 32 b.toNat)) = byte1 c b := by
  rw [half_eq, half_eq, ← bitN_add]; rfl
def fold (c : BitVec 32) (l : List UInt8) : BitVec 32 := l.foldl byte1 c
def sum (l : List UInt8) : BitVec 32 := ~~~ (fold 0xFFFFFFFF#32 l)

def zipXor (a b : List UInt8) : List UInt8 := List.zipWith (· ^^^ ·) a b
theorem byte1_xor (c d : BitVec 32) (x y : UInt8) : byte1 (c ^^^ d) (x ^^^ y) = byte1 c x ^^^ byte1 d y := by
  unfold byte1
  rw [← bitN_xor]
  congr 1
  have : BitVec.ofNat 32 (x ^^^ y).toNat = BitVec.ofNat 32 x.toNat ^^^ BitVec.ofNat 32 y.toNat := by
    rw [UInt8.toNat_xor]
    apply BitVec.eq_of_getLsbD_eq
    intro i hi
    simp only [BitVec.getLsbD_xor, BitVec.getLsbD_ofNat, Nat.testBit_xor, hi, decide_true, Bool.true_and]
  rw [this]
  ac_rfl
theorem fold_xor : ∀ (a b : List UInt8), a.length = b.length → ∀ c d, fold (c ^^^ d) (zipXor a b) = fold c a ^^^ fold d b := by
  intro a
  induction a with
  | nil => intro b h c d; cases b with
    | nil => rfl
    | cons y b => simp at h
  | cons x a ih => intro b h c d; cases b with
    | nil => simp at h
    | cons y b =>
      show fold (byte1 (c ^^^ d) (x ^^^ y)) (zipXor a b) = _
      rw [byte1_xor]
      exact ih b (by simpa using h) _ _
theorem take_snoc (s : ByteArray) (k : Nat) (h : k < s.size) : s.data.toList.take (k + 1) = s.data.toList.take k ++ [s[k]] := by
  rw [List.take_succ_eq_append_getElem (by simpa using h)]; rfl
theorem fold_snoc (c : BitVec 32) (l : List UInt8) (b : UInt8) : fold c (l ++ [b]) = byte1 (fold c l) b := by
  unfold fold; rw [List.foldl_append]; rfl
theorem fold_append (c : BitVec 32) (a b : List UInt8) : fold c (a ++ b) = fold (fold c a) b := by
  unfold fold; rw [List.foldl_append]
theorem byte1_zero (c : BitVec 32) : byte1 c 0 = bitN 8 c := by unfold byte1; simp
theorem fold_zeros (n : Nat) : ∀ c, fold c (List.replicate n 0) = bitN (8 * n) c := by
  induction n with
  | zero => intro c; rfl
  | succ n ih =>
    intro c
    show fold (byte1 c 0) (List.replicate n 0) = _
    rw [byte1_zero, ih, show 8 * (n + 1) = 8 + 8 * n from by omega, bitN_add]
/-- zeros, up to four bytes, zeros: nothing is left only if all of them are zero -/
def four (e0 e1 e2 e3 : UInt8) : BitVec 32 := BitVec.ofNat 32 e0.toNat ^^^ (BitVec.ofNat 32 e1.toNat <<< 8) ^^^ (BitVec.ofNat 32 e2.toNat <<< 16) ^^^ (BitVec.ofNat 32 e3.toNat <<< 24)
theorem lsb_byte (e : UInt8) (i : Nat) (h : 8 ≤ i) : (BitVec.ofNat 32 e.toNat).getLsbD i = false := by
  rw [BitVec.getLsbD_ofNat]
  have : e.toNat.testBit i = false := Nat.testBit_lt_two_pow (Nat.lt_of_lt_of_le e.toNat_lt (by exact Nat.pow_le_pow_right (by decide) h))
  rw [this, Bool.and_false]
theorem back (e : UInt8) (k : Nat) (h : k ≤ 24) : bitN k (BitVec.ofNat 32 e.toNat <<< k) = BitVec.ofNat 32 e.toNat := by
  have hb := lsb_byte e
  generalize BitVec.ofNat 32 e.toNat = x at hb ⊢
  rw [bitN_shift]
  · apply BitVec.eq_of_getLsbD_eq
    intro i hi
    rw [BitVec.getLsbD_ushiftRight, BitVec.getLsbD_shiftLeft, Nat.add_sub_cancel_left]
    by_cases h8 : i < 8
    · rw [decide_eq_true (show k + i < 32 by omega), decide_eq_false (show ¬ k + i < k by omega)]; rfl
    · rw [hb i (by omega), Bool.and_false]
  · intro i hi
    rw [BitVec.getLsbD_shiftLeft, decide_eq_true hi]
    simp only [Bool.not_true, Bool.and_false, Bool.false_and]
theorem fold_four (c : BitVec 32) (e0 e1 e2 e3 : UInt8) : fold c [e0, e1, e2, e3] = bitN 32 (c ^^^ four e0 e1 e2 e3) := by
  show bitN 8 (bitN 8 (bitN 8 (bitN 8 (c ^^^ BitVec.ofNat 32 e0.toNat) ^^^ BitVec.ofNat 32 e1.toNat) ^^^ BitVec.ofNat 32 e2.toNat) ^^^ BitVec.ofNat 32 e3.toNat) = _
  conv => lhs; rw [← back e1 8 (by omega), ← bitN_xor, ← bitN_add, ← back e2 16 (by omega), ← bitN_xor, ← bitN_add, ← back e3 24 (by omega), ← bitN_xor, ← bitN_add]
  unfold four
  simp only [BitVec.xor_assoc]
theorem bit_byte (e : UInt8) (i : Nat) (h : i < 32) : (BitVec.ofNat 32 e.toNat).getLsbD i = e.toNat.testBit i := by
  rw [BitVec.getLsbD_ofNat, decide_eq_true h, Bool.true_and]
theorem four_bit (e0 e1 e2 e3 : UInt8) (i : Nat) (h : i < 32) : (four e0 e1 e2 e3).getLsbD i = (e0.toNat.testBit i ^^ (!decide (i < 8) && e1.toNat.testBit (i - 8)) ^^ (!decide (i < 16) && e2.toNat.testBit (i - 16)) ^^ (!decide (i < 24) && e3.toNat.testBit (i - 24))) := by
  unfold four
  rw [BitVec.getLsbD_xor, BitVec.getLsbD_xor, BitVec.getLsbD_xor, BitVec.getLsbD_shiftLeft, BitVec.getLsbD_shiftLeft, BitVec.getLsbD_shiftLeft, bit_byte _ _ h, bit_byte _ _ (by omega), bit_byte _ _ (by omega), bit_byte _ _ (by omega)]
  simp only [h, decide_true, Bool.true_and]
theorem high (e : UInt8) (i : Nat) (h : 8 ≤ i) : e.toNat.testBit i = false :=
  Nat.testBit_lt_two_pow (Nat.lt_of_lt_of_le e.toNat_lt (Nat.pow_le_pow_right (by decide) h))
theorem byte_zero (e : UInt8) (h : ∀ i, i < 8 → e.toNat.testBit i = false) : e = 0 := by
  apply UInt8.toNat_inj.1
  apply Nat.eq_of_testBit_eq
  intro i
  rw [show (0 : UInt8).toNat = 0 from rfl, Nat.zero_testBit]
  by_cases hi : i < 8
  · exact h i hi
  · exact high e i (by omega)
theorem four_eq_zero {e0 e1 e2 e3 : UInt8} (h : four e0 e1 e2 e3 = 0#32) : e0 = 0 ∧ e1 = 0 ∧ e2 = 0 ∧ e3 = 0 := by
  have bit : ∀ i, i < 32 → (e0.toNat.testBit i ^^ (!decide (i < 8) && e1.toNat.testBit (i - 8)) ^^ (!decide (i < 16) && e2.toNat.testBit (i - 16)) ^^ (!decide (i < 24) && e3.toNat.testBit (i - 24))) = false := by
    intro i hi; rw [← four_bit _ _ _ _ _ hi, h, BitVec.getLsbD_zero]
  refine ⟨byte_zero _ fun i hi => ?_, byte_zero _ fun i hi => ?_, byte_zero _ fun i hi => ?_, byte_zero _ fun i hi => ?_⟩
  · have := bit i (by omega)
    simpa only [hi, show i < 16 by omega, show i < 24 by omega, decide_true, Bool.not_true, Bool.false_and, Bool.xor_false] using this
  · have := bit (8 + i) (by omega)
    simpa only [high e0 (8 + i) (by omega), show ¬ 8 + i < 8 by omega, show 8 + i < 16 by omega, show 8 + i < 24 by omega, decide_true, decide_false, Bool.not_true, Bool.not_false, Bool.true_and, Bool.false_and, Bool.xor_false, Bool.false_xor, show 8 + i - 8 = i by omega] using this
  · have := bit (16 + i) (by omega)
    simpa only [high e0 (16 + i) (by omega), show 16 + i - 8 = 8 + i by omega, high e1 (8 + i) (by omega), show ¬ 16 + i < 16 by omega, show 16 + i < 24 by omega, decide_true, decide_false, Bool.not_true, Bool.not_false, Bool.true_and, Bool.false_and, Bool.and_false, Bool.xor_false, Bool.false_xor, show 16 + i - 16 = i by omega] using this
  · have := bit (24 + i) (by omega)
    simpa only [high e0 (24 + i) (by omega), show 24 + i - 8 = 16 + i by omega, high e1 (16 + i) (by omega), show 24 + i - 16 = 8 + i by omega, high e2 (8 + i) (by omega), show ¬ 24 + i < 24 by omega, decide_true, decide_false, Bool.not_true, Bool.not_false, Bool.true_and, Bool.false_and, Bool.and_false, Bool.xor_false, Bool.false_xor, show 24 + i - 24 = i by omega] using this
theorem fold_zeros_zero (n : Nat) : fold 0#32 (List.replicate n 0) = 0#32 := by rw [fold_zeros, bitN_zero]
theorem burst4 (m n : Nat) (e0 e1 e2 e3 : UInt8) (h : fold 0#32 (List.replicate m 0 ++ ([e0, e1, e2, e3] ++ List.replicate n 0)) = 0#32) : e0 = 0 ∧ e1 = 0 ∧ e2 = 0 ∧ e3 = 0 := by
  rw [fold_append, fold_append, fold_zeros_zero, fold_four, fold_zeros, BitVec.zero_xor] at h
  exact four_eq_zero (bitN_eq_zero _ (bitN_eq_zero _ h))
/-- zeros, at most four bytes, zeros: nothing is left only if all bytes are zero -/
theorem burst (m n : Nat) (l : List UInt8) (hl : l.length ≤ 4) (h : fold 0#32 (List.replicate m 0 ++ (l ++ List.replicate n 0)) = 0#32) : ∀ x ∈ l, x = 0 := by
  have h' : fold 0#32 (List.replicate m 0 ++ ((l ++ List.replicate (4 - l.length) 0) ++ List.replicate n 0)) = 0#32 := by
    have e : List.replicate m 0 ++ ((l ++ List.replicate (4 - l.length) 0) ++ List.replicate n (0 : UInt8)) = (List.replicate m 0 ++ (l ++ List.replicate n 0)) ++ List.replicate (4 - l.length) 0 := by
      rw [List.append_assoc, List.append_assoc, List.append_assoc, List.replicate_append_replicate, List.replicate_append_replicate, Nat.add_comm]
    rw [e, fold_append, h, fold_zeros_zero]
  match l, hl with
  | [], _ => intro x hx; cases hx
  | [a], _ =>
    obtain ⟨ha, _⟩ := burst4 m n a 0 0 0 h'
    intro x hx; simp only [List.mem_cons, List.not_mem_nil, or_false] at hx; rw [hx, ha]
  | [a, b], _ =>
    obtain ⟨ha, hb, _⟩ := burst4 m n a b 0 0 h'
    intro x hx; simp only [List.mem_cons, List.not_mem_nil, or_false] at hx; rcases hx with hx | hx <;> rw [hx] <;> assumption
  | [a, b, c], _ =>
    obtain ⟨ha, hb, hc, _⟩ := burst4 m n a b c 0 h'
    intro x hx; simp only [List.mem_cons, List.not_mem_nil, or_false] at hx; rcases hx with hx | hx | hx <;> rw [hx] <;> assumption
  | [a, b, c, d], _ =>
    obtain ⟨ha, hb, hc, hd⟩ := burst4 m n a b c d h'
    intro x hx; simp only [List.mem_cons, List.not_mem_nil, or_false] at hx; rcases hx with hx | hx | hx | hx <;> rw [hx] <;> assumption
/-- two texts of one length that differ in at most four neighbouring bytes have one sum only if they are equal -/
theorem sum_inj (p q a b : List UInt8) (hl : a.length = b.length) (h4 : a.length ≤ 4) (h : sum (p ++ (a ++ q)) = sum (p ++ (b ++ q))) : a = b := by
  have hf : fold 0xFFFFFFFF#32 (p ++ (a ++ q)) = fold 0xFFFFFFFF#32 (p ++ (b ++ q)) := by
    have := congrArg (fun x => ~~~ x) h
    simpa only [sum, BitVec.not_not] using this
  have hx := fold_xor (p ++ (a ++ q)) (p ++ (b ++ q)) (by simp [hl]) 0xFFFFFFFF#32 0xFFFFFFFF#32
  rw [hf, BitVec.xor_self, BitVec.xor_self] at hx
  have self : ∀ l : List UInt8, zipXor l l = List.replicate l.length 0 := by
    intro l
    induction l with
    | nil => rfl
    | cons x l ih => show (x ^^^ x) :: zipXor l l = _; rw [ih, UInt8.xor_self]; rfl
  have split : zipXor (p ++ (a ++ q)) (p ++ (b ++ q)) = List.replicate p.length 0 ++ (zipXor a b ++ List.replicate q.length 0) := by
    unfold zipXor
    rw [List.zipWith_append (by rfl), List.zipWith_append hl]
    rw [← self p, ← self q]; rfl
  rw [split] at hx
  have hz := burst p.length q.length (zipXor a b) (by unfold zipXor; rw [List.length_zipWith]; omega) hx
  clear hx split self hf h h4
  induction a generalizing b with
  | nil => cases b with
    | nil => rfl
    | cons y b => simp at hl
  | cons x a ih => cases b with
    | nil => simp at hl
    | cons y b =>
      have h0 : x ^^^ y = 0 := hz (x ^^^ y) (by simp [zipXor])
      have : x = y := by simpa using UInt8.xor_eq_zero_iff.1 h0
      rw [this, ih b (by simpa using hl) (fun z hz' => hz z (by simp only [zipXor, List.zipWith_cons_cons, List.mem_cons]; exact Or.inr hz'))]

end Crc
end Go.Proofs.YtoceglomogcgcaaDoor
