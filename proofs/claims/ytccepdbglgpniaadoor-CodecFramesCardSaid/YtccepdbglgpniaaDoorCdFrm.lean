/- the walks of Frame and Unframe, of the program and of the reference: both answer the same -/
import Derived.Test.YtccepdbglgpniaaDoorCdL1
namespace Go.Proofs.YtccepdbglgpniaaDoor
open Go.RowKit

def frameB (p : ByteArray) : ByteArray := leS p.size 4 ++ p
/-- the frame of a payload -/
def frameR (p : ByteArray) : ByteArray := if 8392 < p.size then ⟨#[]⟩ else frameB p ++ leS (Crc.sum (frameB p).data.toList).toNat 4
theorem frameB_size (p : ByteArray) : (frameB p).size = p.size + 4 := by unfold frameB; rw [ByteArray.size_append, leS_size]; omega
theorem putR4 (s : ByteArray) (n : Int) : putR s n 4 = s ++ leS n 4 := by unfold putR; rw [if_neg (by decide)]; rfl
theorem empty_app (x : ByteArray) : (⟨#[]⟩ : ByteArray) ++ x = x := str_eq (by rw [str_app]; rfl)

set_option maxHeartbeats 400000 in
theorem frame_any (p : ByteArray) (w : World) (hp : p.size ≤ maxLen) (ht : TabAt w) :
    Calls Tryd.prog 21 #[.string p] w fun e w' => e = .returned (.string (frameR p)) ∧ Below w.heap.size w w' := by
  unfold maxLen at hp
  have HT := Lib.hid ht
  clear ht
  by_cases hl : 8392 < p.size
  · have HF : Hid (frameR p = ⟨#[]⟩) := if_pos hl
    go_enter Tryd.func21, Tryd.ntmps21
    go_wp2
    go_ret
    exact ⟨by rw [HF.out]; rfl, Below.refl _ _⟩
  · have HF : Hid (frameR p = frameB p ++ leS (Crc.sum (frameB p).data.toList).toNat 4) := if_neg hl
    have hfb := frameB_size p
    have HB : Hid (frameB p = leS p.size 4 ++ p) := rfl
    have hz4 : (leS p.size 4).size ≤ 4 := by rw [leS_size]; omega
    go_enter Tryd.func21, Tryd.ntmps21
    go_wp2_with fail
    refine (put_any _ _ _ _ (by decide)).mono ?_
    rintro e w1 ⟨rfl, hb⟩
    rw [putR4, empty_app]
    have HT1 := Lib.hid (HT.out.below hb)
    have hfz : (frameB p).size ≤ 8396 := by omega
    clear hfb
    generalize leS p.size 4 = l4 at *
    go_wp2_with fail
    rw [← HB.out]
    generalize frameB p = b at *
    refine (sum_any _ _ (by unfold maxLen; omega) HT1.out).mono ?_
    rintro e w2 ⟨rfl, rfl⟩
    have hs := (Crc.sum b.data.toList).isLt
    have hs' : (Crc.sum b.data.toList).toNat ≤ 4294967295 := by omega
    clear hs
    generalize (Crc.sum b.data.toList).toNat = c at *
    go_wp2_with fail
    refine (put_any _ _ _ _ (by omega)).mono ?_
    rintro e w2 ⟨rfl, hb2⟩
    rw [putR4]
    go_wp2
    go_ret
    exact ⟨by rw [HF.out]; rfl, hb.trans (hb2.mono hb.size)⟩

set_option maxHeartbeats 400000 in
theorem rframe_any (p : ByteArray) (w : World) (hp : p.size ≤ maxLen) :
    Calls Tryd.prog 14 #[.string p] w fun e w' => e = .returned (.string (frameR p)) ∧ Below w.heap.size w w' := by
  unfold maxLen at hp
  by_cases hl : 8392 < p.size
  · have HF : Hid (frameR p = ⟨#[]⟩) := if_pos hl
    go_enter Tryd.func14, Tryd.ntmps14
    go_wp2
    go_ret
    exact ⟨by rw [HF.out]; rfl, Below.refl _ _⟩
  · have HF : Hid (frameR p = frameB p ++ leS (Crc.sum (frameB p).data.toList).toNat 4) := if_neg hl
    have hfb := frameB_size p
    have HB : Hid (frameB p = leS p.size 4 ++ p) := rfl
    have hz4 : (leS p.size 4).size ≤ 4 := by rw [leS_size]; omega
    go_enter Tryd.func14, Tryd.ntmps14
    go_wp2_with fail
    refine (rput_any _ _ _ _ (by decide)).mono ?_
    rintro e w1 ⟨rfl, hb⟩
    rw [putR4, empty_app]
    have hfz : (frameB p).size ≤ 8396 := by omega
    clear hfb
    generalize leS p.size 4 = l4 at *
    go_wp2_with fail
    rw [← HB.out]
    generalize frameB p = b at *
    refine (rsum_any _ _ (by unfold maxLen; omega)).mono ?_
    rintro e w2 ⟨rfl, rfl⟩
    have hs := (Crc.sum b.data.toList).isLt
    have hs' : (Crc.sum b.data.toList).toNat ≤ 4294967295 := by omega
    clear hs
    generalize (Crc.sum b.data.toList).toNat = c at *
    go_wp2_with fail
    refine (rput_any _ _ _ _ (by omega)).mono ?_
    rintro e w2 ⟨rfl, hb2⟩
    rw [putR4]
    go_wp2
    go_ret
    exact ⟨by rw [HF.out]; rfl, hb.trans (hb2.mono hb.size)⟩

theorem getR4 (s : ByteArray) (a : Nat) (h : a + 4 ≤ s.size) : getR s a 4 = ((leNum s a 4 : Int), 0) := by
  unfold getR
  rw [if_neg (by omega), if_neg (by omega)]
  have := leNum_lt s a 4
  rw [show (a : Int).toNat = a from rfl, show (4 : Int).toNat = 4 from rfl, IntWalk.wrap64_in _ ⟨by omega, by omega⟩]
theorem getR4s (s : ByteArray) (a : Nat) (h : s.size < a + 4) : getR s a 4 = (0, 5) := by
  unfold getR
  rw [if_neg (by omega), if_pos (by omega)]
/-- the checksum of a part of a text -/
def sumAt (s : ByteArray) (a b : Nat) : Nat := (Crc.sum (s.extract a b).data.toList).toNat
/-- what Unframe answers -/
def unfR (s : ByteArray) (a : Int) : ByteArray × Int × Int :=
  if a < 0 ∨ (s.size : Int) < a then (⟨#[]⟩, 0, 1)
  else if s.size < a.toNat + 4 then (⟨#[]⟩, 0, 5)
  else if 8392 < leNum s a.toNat 4 then (⟨#[]⟩, 0, 2)
  else if s.size < a.toNat + 4 + leNum s a.toNat 4 + 4 then (⟨#[]⟩, 0, 5)
  else if leNum s (a.toNat + 4 + leNum s a.toNat 4) 4 ≠ sumAt s a.toNat (a.toNat + 4 + leNum s a.toNat 4) then (⟨#[]⟩, 0, 3)
  else (s.extract (a.toNat + 4) (a.toNat + 4 + leNum s a.toNat 4), (a.toNat : Int) + 4 + leNum s a.toNat 4 + 4, 0)
def unfV (r : ByteArray × Int × Int) : Value := .tuple #[.string r.1, .int .i64 r.2.1, .int .i64 r.2.2]

set_option maxHeartbeats 400000 in
theorem unf_range (s : ByteArray) (a : Int) (w : World) (_hs : s.size ≤ maxLen) (h : a < 0 ∨ (s.size : Int) < a) :
    Calls Tryd.prog 17 #[.string s, .int .i64 a] w fun e w' => e = .returned (unfV (⟨#[]⟩, 0, 1)) ∧ w = w' := by
  unfold maxLen at _hs
  by_cases h0 : a < 0
  · have d0 : decide (a < 0) = true := by simpa using h0
    clear h
    go_enter Tryd.func17, Tryd.ntmps17
    go_wp2
    go_ret3
    exact ⟨rfl, rfl⟩
  · have d0 : decide (a < 0) = false := by simpa using h0
    have h1 : (s.size : Int) < a := by omega
    have d1 : decide ((s.size : Int) < a) = true := by simpa using h1
    clear h
    go_enter Tryd.func17, Tryd.ntmps17
    go_wp2
    go_ret3
    exact ⟨rfl, rfl⟩
set_option maxHeartbeats 1000000 in
theorem unf_nat (s : ByteArray) (a : Nat) (w : World) (hs : s.size ≤ 4611686018427387904) (ht : TabAt w) (h : a ≤ s.size) :
    Calls Tryd.prog 17 #[.string s, .int .i64 a] w fun e w' => e = .returned (unfV (unfR s a)) ∧ w = w' := by
  have HT := Lib.hid ht
  clear ht
  have d0 : decide ((a : Int) < 0) = false := by simp
  have d1 : decide ((s.size : Int) < (a : Int)) = false := by simp; omega
  have d1' : decide (s.size < a) = false := by simp; omega
  by_cases h4 : s.size < a + 4
  · have HR : Hid (unfR s a = (⟨#[]⟩, 0, 5)) := by
      show _ = _
      unfold unfR
      rw [if_neg (by omega), if_pos (by simpa using h4)]
    go_enter Tryd.func17, Tryd.ntmps17
    go_wp2_with fail
    refine (get_any _ _ _ _ (by unfold maxLen; omega)).mono ?_
    rintro e w1 ⟨rfl, rfl⟩
    rw [getR4s s a h4]
    go_wp2
    go_ret3
    exact ⟨by rw [HR.out]; rfl, rfl⟩
  have hL := leNum_lt s a 4
  have hL' : leNum s a 4 ≤ 4294967295 := by omega
  clear hL
  by_cases hm : 8392 < leNum s a 4
  · have HR : Hid (unfR s a = (⟨#[]⟩, 0, 2)) := by
      show _ = _
      unfold unfR
      rw [if_neg (by omega), if_neg (by simpa using h4), if_pos (by simpa using hm)]
    go_enter Tryd.func17, Tryd.ntmps17
    go_wp2_with fail
    refine (get_any _ _ _ _ (by unfold maxLen; omega)).mono ?_
    rintro e w1 ⟨rfl, rfl⟩
    rw [getR4 s a (by omega)]
    generalize leNum s a 4 = L at *
    go_wp2
    go_ret3
    exact ⟨by rw [HR.out]; rfl, rfl⟩
  by_cases he : s.size < a + 4 + leNum s a 4 + 4
  · have HR : Hid (unfR s a = (⟨#[]⟩, 0, 5)) := by
      show _ = _
      unfold unfR
      rw [if_neg (by omega), if_neg (by simpa using h4), if_neg (by simpa using hm), if_pos (by simpa using he)]
    go_enter Tryd.func17, Tryd.ntmps17
    go_wp2_with fail
    refine (get_any _ _ _ _ (by unfold maxLen; omega)).mono ?_
    rintro e w1 ⟨rfl, rfl⟩
    rw [getR4 s a (by omega)]
    have HG := Lib.hid (getR4s s (a + 4 + leNum s a 4) (by omega))
    generalize leNum s a 4 = L at *
    go_wp2_with fail
    refine (get_any _ _ _ _ (by unfold maxLen; omega)).mono ?_
    rintro e w1 ⟨rfl, rfl⟩
    rw [show (a : Int) + 4 + (L : Int) = ((a + 4 + L : Nat) : Int) from by omega, HG.out]
    go_wp2
    go_ret3
    exact ⟨by rw [HR.out]; rfl, rfl⟩
  have hLm : leNum s a 4 ≤ 8392 := by omega
  have HG2 := Lib.hid (getR4 s (a + 4 + leNum s a 4) (by omega))
  have hS := leNum_lt s (a + 4 + leNum s a 4) 4
  have hS' : leNum s (a + 4 + leNum s a 4) 4 ≤ 4294967295 := by omega
  clear hS
  have hsum : sumAt s a (a + 4 + leNum s a 4) ≤ 4294967295 := by
    have := (Crc.sum (s.extract a (a + 4 + leNum s a 4)).data.toList).isLt
    unfold sumAt; omega
  have HSm : Hid ((Crc.sum (s.extract a (a + 4 + leNum s a 4)).data.toList).toNat = sumAt s a (a + 4 + leNum s a 4)) := rfl
  by_cases hc : leNum s (a + 4 + leNum s a 4) 4 = sumAt s a (a + 4 + leNum s a 4)
  · have HR : Hid (unfR s a = (s.extract (a + 4) (a + 4 + leNum s a 4), (a : Int) + 4 + leNum s a 4 + 4, 0)) := by
      show _ = _
      unfold unfR
      rw [if_neg (by omega), if_neg (by simpa using h4), if_neg (by simpa using hm), if_neg (by simpa using he), if_neg (by simpa using hc)]
      rfl
    have HC := Lib.hid hc
    have hcb : (((sumAt s a (a + 4 + leNum s a 4) : Nat) : Int) != (sumAt s a (a + 4 + leNum s a 4) : Nat)) = false := by simp
    clear hc
    go_enter Tryd.func17, Tryd.ntmps17
    go_wp2_with fail
    refine (get_any _ _ _ _ (by unfold maxLen; omega)).mono ?_
    rintro e w1 ⟨rfl, rfl⟩
    rw [getR4 s a (by omega)]
    generalize leNum s a 4 = L at *
    go_wp2_with fail
    refine (get_any _ _ _ _ (by unfold maxLen; omega)).mono ?_
    rintro e w1 ⟨rfl, rfl⟩
    rw [show (a : Int) + 4 + (L : Int) = ((a + 4 + L : Nat) : Int) from by omega, HG2.out, HC.out]
    go_wp2_with fail
    refine (sum_any _ _ (by rw [ByteArray.size_extract]; unfold maxLen; omega) HT.out).mono ?_
    rintro e w1 ⟨rfl, rfl⟩
    rw [HSm.out]
    generalize sumAt s a (a + 4 + L) = c at *
    go_wp2
    go_ret3
    exact ⟨by rw [HR.out]; rfl, rfl⟩
  · have HR : Hid (unfR s a = (⟨#[]⟩, 0, 3)) := by
      show _ = _
      unfold unfR
      rw [if_neg (by omega), if_neg (by simpa using h4), if_neg (by simpa using hm), if_neg (by simpa using he), if_pos (by simpa using hc)]
    have hcb : (((leNum s (a + 4 + leNum s a 4) 4 : Nat) : Int) != (sumAt s a (a + 4 + leNum s a 4) : Nat)) = true := by rw [bne_iff_ne]; omega
    clear hc
    go_enter Tryd.func17, Tryd.ntmps17
    go_wp2_with fail
    refine (get_any _ _ _ _ (by unfold maxLen; omega)).mono ?_
    rintro e w1 ⟨rfl, rfl⟩
    rw [getR4 s a (by omega)]
    generalize leNum s a 4 = L at *
    go_wp2_with fail
    refine (get_any _ _ _ _ (by unfold maxLen; omega)).mono ?_
    rintro e w1 ⟨rfl, rfl⟩
    rw [show (a : Int) + 4 + (L : Int) = ((a + 4 + L : Nat) : Int) from by omega, HG2.out]
    generalize leNum s (a + 4 + L) 4 = d at *
    go_wp2_with fail
    refine (sum_any _ _ (by rw [ByteArray.size_extract]; unfold maxLen; omega) HT.out).mono ?_
    rintro e w1 ⟨rfl, rfl⟩
    rw [HSm.out]
    generalize sumAt s a (a + 4 + L) = c at *
    go_wp2
    go_ret3
    exact ⟨by rw [HR.out]; rfl, rfl⟩
theorem unf_any (s : ByteArray) (a : Int) (w : World) (hs : s.size ≤ 4611686018427387904) (ht : TabAt w) :
    Calls Tryd.prog 17 #[.string s, .int .i64 a] w fun e w' => e = .returned (unfV (unfR s a)) ∧ w = w' := by
  by_cases h : a < 0 ∨ (s.size : Int) < a
  · rw [show unfR s a = (⟨#[]⟩, 0, 1) from if_pos h]
    exact unf_range s a w (by unfold maxLen; omega) h
  · obtain ⟨x, rfl⟩ := Int.eq_ofNat_of_zero_le (show 0 ≤ a by omega)
    exact unf_nat s x w hs ht (by omega)

set_option maxHeartbeats 400000 in
theorem runf_range (s : ByteArray) (a : Int) (w : World) (_hs : s.size ≤ maxLen) (h : a < 0 ∨ (s.size : Int) < a) :
    Calls Tryd.prog 18 #[.string s, .int .i64 a] w fun e w' => e = .returned (unfV (⟨#[]⟩, 0, 1)) ∧ w = w' := by
  unfold maxLen at _hs
  by_cases h0 : a < 0
  · have d0 : decide (a < 0) = true := by simpa using h0
    clear h
    go_enter Tryd.func18, Tryd.ntmps18
    go_wp2
    go_ret3
    exact ⟨rfl, rfl⟩
  · have d0 : decide (a < 0) = false := by simpa using h0
    have h1 : (s.size : Int) < a := by omega
    have d1 : decide ((s.size : Int) < a) = true := by simpa using h1
    clear h
    go_enter Tryd.func18, Tryd.ntmps18
    go_wp2
    go_ret3
    exact ⟨rfl, rfl⟩
set_option maxHeartbeats 1000000 in
theorem runf_nat (s : ByteArray) (a : Nat) (w : World) (hs : s.size ≤ 4611686018427387904) (h : a ≤ s.size) :
    Calls Tryd.prog 18 #[.string s, .int .i64 a] w fun e w' => e = .returned (unfV (unfR s a)) ∧ w = w' := by
  have d0 : decide ((a : Int) < 0) = false := by simp
  have d1 : decide ((s.size : Int) < (a : Int)) = false := by simp; omega
  have d1' : decide (s.size < a) = false := by simp; omega
  by_cases h4 : s.size < a + 4
  · have HR : Hid (unfR s a = (⟨#[]⟩, 0, 5)) := by
      show _ = _
      unfold unfR
      rw [if_neg (by omega), if_pos (by simpa using h4)]
    go_enter Tryd.func18, Tryd.ntmps18
    go_wp2_with fail
    refine (rget_any _ _ _ _ (by unfold maxLen; omega)).mono ?_
    rintro e w1 ⟨rfl, rfl⟩
    rw [getR4s s a h4]
    go_wp2
    go_ret3
    exact ⟨by rw [HR.out]; rfl, rfl⟩
  have hL := leNum_lt s a 4
  have hL' : leNum s a 4 ≤ 4294967295 := by omega
  clear hL
  by_cases hm : 8392 < leNum s a 4
  · have HR : Hid (unfR s a = (⟨#[]⟩, 0, 2)) := by
      show _ = _
      unfold unfR
      rw [if_neg (by omega), if_neg (by simpa using h4), if_pos (by simpa using hm)]
    go_enter Tryd.func18, Tryd.ntmps18
    go_wp2_with fail
    refine (rget_any _ _ _ _ (by unfold maxLen; omega)).mono ?_
    rintro e w1 ⟨rfl, rfl⟩
    rw [getR4 s a (by omega)]
    generalize leNum s a 4 = L at *
    go_wp2
    go_ret3
    exact ⟨by rw [HR.out]; rfl, rfl⟩
  by_cases he : s.size < a + 4 + leNum s a 4 + 4
  · have HR : Hid (unfR s a = (⟨#[]⟩, 0, 5)) := by
      show _ = _
      unfold unfR
      rw [if_neg (by omega), if_neg (by simpa using h4), if_neg (by simpa using hm), if_pos (by simpa using he)]
    have hee : (s.size : Int) - (a : Int) < (leNum s a 4 : Int) + 8 := by omega
    go_enter Tryd.func18, Tryd.ntmps18
    go_wp2_with fail
    refine (rget_any _ _ _ _ (by unfold maxLen; omega)).mono ?_
    rintro e w1 ⟨rfl, rfl⟩
    rw [getR4 s a (by omega)]
    generalize leNum s a 4 = L at *
    go_wp2
    go_ret3
    exact ⟨by rw [HR.out]; rfl, rfl⟩
  have hee : ¬ (s.size : Int) - (a : Int) < (leNum s a 4 : Int) + 8 := by omega
  have hLm : leNum s a 4 ≤ 8392 := by omega
  have HG2 := Lib.hid (getR4 s (a + 4 + leNum s a 4) (by omega))
  have hS := leNum_lt s (a + 4 + leNum s a 4) 4
  have hS' : leNum s (a + 4 + leNum s a 4) 4 ≤ 4294967295 := by omega
  clear hS
  have hsum : sumAt s a (a + 4 + leNum s a 4) ≤ 4294967295 := by
    have := (Crc.sum (s.extract a (a + 4 + leNum s a 4)).data.toList).isLt
    unfold sumAt; omega
  have HSm : Hid ((Crc.sum (s.extract a (a + 4 + leNum s a 4)).data.toList).toNat = sumAt s a (a + 4 + leNum s a 4)) := rfl
  by_cases hc : leNum s (a + 4 + leNum s a 4) 4 = sumAt s a (a + 4 + leNum s a 4)
  · have HR : Hid (unfR s a = (s.extract (a + 4) (a + 4 + leNum s a 4), (a : Int) + 4 + leNum s a 4 + 4, 0)) := by
      show _ = _
      unfold unfR
      rw [if_neg (by omega), if_neg (by simpa using h4), if_neg (by simpa using hm), if_neg (by simpa using he), if_neg (by simpa using hc)]
      rfl
    have HC := Lib.hid hc
    have hcb : (((sumAt s a (a + 4 + leNum s a 4) : Nat) : Int) != (sumAt s a (a + 4 + leNum s a 4) : Nat)) = false := by simp
    clear hc
    go_enter Tryd.func18, Tryd.ntmps18
    go_wp2_with fail
    refine (rget_any _ _ _ _ (by unfold maxLen; omega)).mono ?_
    rintro e w1 ⟨rfl, rfl⟩
    rw [getR4 s a (by omega)]
    generalize leNum s a 4 = L at *
    go_wp2_with fail
    refine (rget_any _ _ _ _ (by unfold maxLen; omega)).mono ?_
    rintro e w1 ⟨rfl, rfl⟩
    rw [show (a : Int) + 4 + (L : Int) = ((a + 4 + L : Nat) : Int) from by omega, HG2.out, HC.out]
    go_wp2_with fail
    refine (rsum_any _ _ (by rw [ByteArray.size_extract]; unfold maxLen; omega)).mono ?_
    rintro e w1 ⟨rfl, rfl⟩
    rw [HSm.out]
    generalize sumAt s a (a + 4 + L) = c at *
    go_wp2
    go_ret3
    exact ⟨by rw [HR.out, show (a : Int) + 4 + (L : Int) + 4 = (a : Int) + 8 + (L : Int) from by omega]; rfl, rfl⟩
  · have HR : Hid (unfR s a = (⟨#[]⟩, 0, 3)) := by
      show _ = _
      unfold unfR
      rw [if_neg (by omega), if_neg (by simpa using h4), if_neg (by simpa using hm), if_neg (by simpa using he), if_pos (by simpa using hc)]
    have hcb : (((leNum s (a + 4 + leNum s a 4) 4 : Nat) : Int) != (sumAt s a (a + 4 + leNum s a 4) : Nat)) = true := by rw [bne_iff_ne]; omega
    clear hc
    go_enter Tryd.func18, Tryd.ntmps18
    go_wp2_with fail
    refine (rget_any _ _ _ _ (by unfold maxLen; omega)).mono ?_
    rintro e w1 ⟨rfl, rfl⟩
    rw [getR4 s a (by omega)]
    generalize leNum s a 4 = L at *
    go_wp2_with fail
    refine (rget_any _ _ _ _ (by unfold maxLen; omega)).mono ?_
    rintro e w1 ⟨rfl, rfl⟩
    rw [show (a : Int) + 4 + (L : Int) = ((a + 4 + L : Nat) : Int) from by omega, HG2.out]
    generalize leNum s (a + 4 + L) 4 = d at *
    go_wp2_with fail
    refine (rsum_any _ _ (by rw [ByteArray.size_extract]; unfold maxLen; omega)).mono ?_
    rintro e w1 ⟨rfl, rfl⟩
    rw [HSm.out]
    generalize sumAt s a (a + 4 + L) = c at *
    go_wp2
    go_ret3
    exact ⟨by rw [HR.out]; rfl, rfl⟩
theorem runf_any (s : ByteArray) (a : Int) (w : World) (hs : s.size ≤ 4611686018427387904) :
    Calls Tryd.prog 18 #[.string s, .int .i64 a] w fun e w' => e = .returned (unfV (unfR s a)) ∧ w = w' := by
  by_cases h : a < 0 ∨ (s.size : Int) < a
  · rw [show unfR s a = (⟨#[]⟩, 0, 1) from if_pos h]
    exact runf_range s a w (by unfold maxLen; omega) h
  · obtain ⟨x, rfl⟩ := Int.eq_ofNat_of_zero_le (show 0 ≤ a by omega)
    exact runf_nat s x w hs (by omega)
theorem unf_tup (s : ByteArray) (a : Int) (w : World) (hs : s.size ≤ 4611686018427387904) (ht : TabAt w) :
    Calls Tryd.prog 17 #[.string s, .int .i64 a] w fun e w' => e = .returned (.tuple #[.string (unfR s a).1, .int .i64 (unfR s a).2.1, .int .i64 (unfR s a).2.2]) ∧ w = w' := unf_any s a w hs ht
theorem runf_tup (s : ByteArray) (a : Int) (w : World) (hs : s.size ≤ 4611686018427387904) :
    Calls Tryd.prog 18 #[.string s, .int .i64 a] w fun e w' => e = .returned (.tuple #[.string (unfR s a).1, .int .i64 (unfR s a).2.1, .int .i64 (unfR s a).2.2]) ∧ w = w' := runf_any s a w hs
end Go.Proofs.YtccepdbglgpniaaDoor
