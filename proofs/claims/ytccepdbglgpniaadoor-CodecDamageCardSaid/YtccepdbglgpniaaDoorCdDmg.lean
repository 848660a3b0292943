/- plain facts: what Unframe answers for a frame, for a frame cut off, and for a frame in which one byte is changed -/
import Derived.Test.YtccepdbglgpniaaDoorCdFrm
import Derived.Test.YtccepdbglgpniaaDoorCdL2
import Derived.Test.YtccepdbglgpniaaDoorCrcTxt
namespace Go.Proofs.YtccepdbglgpniaaDoor

theorem leNum_congr (s t : ByteArray) (a : Nat) (k : Nat) (h : ∀ i, i < k → s.data.toList.getD (a + i) 0 = t.data.toList.getD (a + i) 0) : leNum s a k = leNum t a k := by
  induction k with
  | zero => rfl
  | succ k ih => rw [leNum, leNum, ih (fun i hi => h i (by omega)), h k (by omega)]
theorem leNum_inj (s t : ByteArray) (a : Nat) (k : Nat) (h : leNum s a k = leNum t a k) : ∀ i, i < k → s.data.toList.getD (a + i) 0 = t.data.toList.getD (a + i) 0 := by
  induction k with
  | zero => intro i hi; omega
  | succ k ih =>
    rw [leNum, leNum] at h
    have h1 := leNum_lt s a k
    have h2 := leNum_lt t a k
    have hp : 0 < 256 ^ k := Nat.pow_pos (by decide)
    have e1 := congrArg (fun x => x / 256 ^ k) h
    have e2 := congrArg (fun x => x % 256 ^ k) h
    simp only [Nat.add_mul_div_right _ _ hp, Nat.div_eq_of_lt h1, Nat.div_eq_of_lt h2, Nat.zero_add] at e1
    simp only [Nat.add_mul_mod_self_right, Nat.mod_eq_of_lt h1, Nat.mod_eq_of_lt h2] at e2
    intro i hi
    by_cases hk : i = k
    · subst hk; exact UInt8.toNat_inj.1 e1
    · exact ih e2 i (by omega)

theorem size_list (s : ByteArray) : s.data.toList.length = s.size := by simp
theorem extract_list (s : ByteArray) (a b : Nat) : (s.extract a b).data.toList = (s.data.toList.take b).drop a := by
  rw [ByteArray.data_extract, Array.toList_extract, List.extract_eq_take_drop, List.take_drop]
  by_cases h : a ≤ b
  · rw [Nat.add_sub_cancel' h]
  · rw [show a + (b - a) = a from by omega]
    have h1 : (List.take a s.data.toList).drop a = [] := List.drop_eq_nil_of_le (by simp; omega)
    have h2 : (List.take b s.data.toList).drop a = [] := List.drop_eq_nil_of_le (by simp; omega)
    rw [h1, h2]

/-- a frame's bytes -/
theorem frame_list (p : ByteArray) (h : p.size ≤ 8392) : (frameR p).data.toList = leL p.size 4 ++ (p.data.toList ++ leL (Crc.sum (leL p.size 4 ++ p.data.toList)).toNat 4) := by
  unfold frameR
  rw [if_neg (by omega), str_app]
  have hb : (frameB p).data.toList = leL p.size 4 ++ p.data.toList := by unfold frameB; rw [str_app]; simp [leS]
  rw [hb, List.append_assoc]
  simp [leS]
theorem frame_size (p : ByteArray) (h : p.size ≤ 8392) : (frameR p).size = p.size + 8 := by
  rw [← size_list, frame_list p h, List.length_append, List.length_append, leL_length, leL_length, size_list]; omega
theorem leL_get (n : Int) (k i : Nat) (h : i < k) : (leL n k).getD i 0 = leB n i := by
  rw [List.getD_eq_getElem?_getD, List.getElem?_eq_getElem (by rw [leL_length]; exact h), Option.getD_some, leL_getD n k i h]
theorem getD_left (a b : List UInt8) (i : Nat) (h : i < a.length) : (a ++ b).getD i 0 = a.getD i 0 := by
  rw [List.getD_eq_getElem?_getD, List.getElem?_append_left h, ← List.getD_eq_getElem?_getD]
theorem getD_right (a b : List UInt8) (i : Nat) : (a ++ b).getD (a.length + i) 0 = b.getD i 0 := by
  rw [List.getD_eq_getElem?_getD, List.getElem?_append_right (by omega), Nat.add_sub_cancel_left, ← List.getD_eq_getElem?_getD]
/-- the length and the checksum in a frame -/
theorem frame_len (p : ByteArray) (h : p.size ≤ 8392) : leNum (frameR p) 0 4 = p.size := by
  have := leNum_of (frameR p) 0 p.size 4 (fun i hi => by
    rw [frame_list p h, Nat.zero_add, getD_left _ _ _ (by rw [leL_length]; exact hi), leL_get _ _ _ hi])
  rw [show (2 : Int) ^ (8 * 4) = 4294967296 from by decide] at this
  omega
theorem frame_sum (p : ByteArray) (h : p.size ≤ 8392) : leNum (frameR p) (4 + p.size) 4 = (Crc.sum (leL p.size 4 ++ p.data.toList)).toNat := by
  have := leNum_of (frameR p) (4 + p.size) ((Crc.sum (leL p.size 4 ++ p.data.toList)).toNat : Int) 4 (fun i hi => by
    rw [frame_list p h, ← List.append_assoc]
    have e : 4 + p.size + i = (leL (p.size : Int) 4 ++ p.data.toList).length + i := by rw [List.length_append, leL_length, size_list]
    rw [e, getD_right, leL_get _ _ _ hi])
  rw [show (2 : Int) ^ (8 * 4) = 4294967296 from by decide] at this
  have hlt := (Crc.sum (leL p.size 4 ++ p.data.toList)).isLt
  omega
theorem frame_body (p : ByteArray) (h : p.size ≤ 8392) : ((frameR p).data.toList.take (4 + p.size)).drop 0 = leL p.size 4 ++ p.data.toList := by
  rw [List.drop_zero, frame_list p h, ← List.append_assoc, List.take_left' (by rw [List.length_append, leL_length, size_list])]
theorem frame_payload (p : ByteArray) (h : p.size ≤ 8392) : ((frameR p).data.toList.take (4 + p.size)).drop 4 = p.data.toList := by
  have := frame_body p h
  rw [List.drop_zero] at this
  rw [this, List.drop_left' (by rw [leL_length])]

/-- a whole frame -/
theorem unf_frame (p : ByteArray) (h : p.size ≤ 8392) : unfR (frameR p) 0 = (p, (p.size : Int) + 8, 0) := by
  have hz := frame_size p h
  have h1 := frame_len p h
  have h2 := frame_sum p h
  unfold unfR
  rw [if_neg (by omega)]
  simp only [show (0 : Int).toNat = 0 from rfl, h1, Nat.zero_add]
  rw [if_neg (by omega), if_neg (by omega), if_neg (by omega), if_neg]
  · refine Prod.ext ?_ (Prod.ext ?_ rfl)
    · apply str_eq
      show ((frameR p).extract 4 (4 + p.size)).data.toList = _
      rw [extract_list, frame_payload p h]
    · show (0 : Int) + 4 + (p.size : Int) + 4 = (p.size : Int) + 8
      omega
  · rw [Decidable.not_not, h2]
    unfold sumAt
    rw [extract_list, frame_body p h]
/-- a frame without its end -/
theorem unf_cut (p : ByteArray) (h : p.size ≤ 8392) (k : Nat) (h4 : 4 ≤ k) (hk : k < p.size + 8) : (unfR ((frameR p).extract 0 k) 0).2.2 = 5 := by
  have hz := frame_size p h
  have hs : ((frameR p).extract 0 k).size = k := by rw [ByteArray.size_extract]; omega
  have h1 : leNum ((frameR p).extract 0 k) 0 4 = p.size := by
    rw [← frame_len p h]
    apply leNum_congr
    intro i hi
    rw [extract_list, List.drop_zero, List.getD_eq_getElem?_getD, List.getElem?_take_of_lt (by omega), ← List.getD_eq_getElem?_getD]
  unfold unfR
  rw [if_neg (by omega)]
  simp only [show (0 : Int).toNat = 0 from rfl, h1, hs, Nat.zero_add]
  rw [if_neg (by omega), if_neg (by omega), if_pos (by omega)]
/-- a frame in which one byte behind the length is changed -/
theorem unf_changed (p : ByteArray) (h : p.size ≤ 8392) (g : ByteArray) (k : Nat) (b : UInt8) (hb : b ≠ 0) (h4 : 4 ≤ k) (hk : k < p.size + 8) (hg : g.data.toList = Crc.upd (frameR p).data.toList k b) : (unfR g 0).2.2 = 3 := by
  have hz := frame_size p h
  have hlen : (frameR p).data.toList.length = p.size + 8 := by rw [size_list, hz]
  have hs : g.size = p.size + 8 := by rw [← size_list, hg, Crc.upd_length, hlen]
  have other : ∀ j, j ≠ k → g.data.toList.getD j 0 = (frameR p).data.toList.getD j 0 := by
    intro j hj
    rw [hg, Crc.upd_getD _ _ _ _ (by omega), if_neg hj]
  have at_k : g.data.toList.getD k 0 = (frameR p).data.toList.getD k 0 ^^^ b := by
    rw [hg, Crc.upd_getD _ _ _ _ (by omega), if_pos rfl]
  have h1 : leNum g 0 4 = p.size := by
    rw [← frame_len p h]
    exact leNum_congr _ _ _ _ (fun i hi => other _ (by omega))
  unfold unfR
  rw [if_neg (by omega)]
  simp only [show (0 : Int).toNat = 0 from rfl, h1, hs, Nat.zero_add]
  rw [if_neg (by omega), if_neg (by omega), if_neg (by omega), if_pos]
  have hF := frame_sum p h
  by_cases hin : k < 4 + p.size
  · have e1 : leNum g (4 + p.size) 4 = leNum (frameR p) (4 + p.size) 4 := leNum_congr _ _ _ _ (fun i hi => other _ (by omega))
    rw [e1, hF]
    unfold sumAt
    rw [extract_list, List.drop_zero, hg]
    have e2 : (Crc.upd (frameR p).data.toList k b).take (4 + p.size) = Crc.updN (leL p.size 4 ++ p.data.toList) k (fun _ => b) 1 := by
      have hbody := frame_body p h
      rw [List.drop_zero] at hbody
      rw [Crc.updN, Crc.updN, Nat.add_zero, ← hbody]
      unfold Crc.upd
      rw [List.take_set, List.getD_eq_getElem?_getD, List.getD_eq_getElem?_getD, List.getElem?_take_of_lt hin]
    rw [e2]
    intro he
    have hsum : Crc.sum (Crc.updN (leL p.size 4 ++ p.data.toList) k (fun _ => b) 1) = Crc.sum (leL p.size 4 ++ p.data.toList) := BitVec.eq_of_toNat_eq he.symm
    have hl : (leL (p.size : Int) 4 ++ p.data.toList).length = 4 + p.size := by rw [List.length_append, leL_length, size_list]
    have := (Crc.sum_updN _ k (fun _ => b) 1 (by decide) (by omega)).1 hsum
    rw [Crc.chg, Crc.chg, hl, Nat.add_zero, decide_eq_true hin, Bool.false_or, Bool.true_and, bne_eq_false_iff_eq] at this
    exact hb this
  · have e1 : sumAt g 0 (4 + p.size) = (Crc.sum (leL p.size 4 ++ p.data.toList)).toNat := by
      unfold sumAt
      rw [extract_list, List.drop_zero, hg]
      have hbody := frame_body p h
      rw [List.drop_zero] at hbody
      unfold Crc.upd
      rw [List.take_set, hbody, List.set_eq_of_length_le (by rw [List.length_append, leL_length, size_list]; omega)]
    rw [e1, ← hF]
    intro he
    have := leNum_inj _ _ _ _ he (k - (4 + p.size)) (by omega)
    rw [show 4 + p.size + (k - (4 + p.size)) = k from by omega, at_k] at this
    apply hb
    have h5 := congrArg (fun x => (frameR p).data.toList.getD k 0 ^^^ x) this
    rw [← UInt8.xor_assoc, UInt8.xor_self, UInt8.zero_xor] at h5
    exact h5
end Go.Proofs.YtccepdbglgpniaaDoor
