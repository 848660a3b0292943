/- plain facts: of two versions of a page, cut, only one of both is read -/
import Derived.Test.YtoceglomogcgcaaDoorPgId
namespace Go.Proofs.YtoceglomogcgcaaDoor
open Go.RowKit

theorem decR_blank {s : ByteArray} (h : (decR s).2 = 7) : s = zeroS 256 := by
  unfold decR at h
  by_cases h1 : s.size ≠ 256
  · rw [if_pos h1] at h; exact absurd h (by simp)
  · rw [if_neg h1] at h
    by_cases h2 : s = zeroS 256
    · exact h2
    · rw [if_neg h2] at h
      by_cases h3 : s.extract 0 8 ≠ s.extract 248 256
      · rw [if_pos h3] at h; exact absurd h (by simp)
      · rw [if_neg h3] at h
        by_cases h4 : wrap64 (leNum s 244 4) ≠ ((Crc.sum (s.extract 0 244).data.toList).toNat : Int)
        · rw [if_pos h4] at h; exact absurd h (by simp)
        · rw [if_neg h4] at h
          by_cases h5 : encR (parseR s) = (s, 0)
          · rw [if_pos h5] at h; exact absurd h (by simp)
          · rw [if_neg h5] at h; exact absurd h (by simp)
theorem zero_ends : (zeroS 256).extract 0 8 = (zeroS 256).extract 248 256 := by kernel_rfl
theorem idR_ok {s : ByteArray} {id : Int} (h : (idR s id).2 = 0) : s.size = 256 ∧ s.extract 0 8 = s.extract 248 256 ∧ (idR s id).1.id = id := by
  unfold idR at h ⊢
  by_cases h1 : ¬ (0 ≤ id ∧ id < 64)
  · rw [if_pos h1] at h; exact absurd h (by simp)
  · rw [if_neg h1] at h
    rw [if_neg h1]
    by_cases h2 : (decR s).2 = 7
    · rw [if_pos h2]
      have := decR_blank h2
      subst this
      exact ⟨zeroS_size 256, zero_ends, rfl⟩
    · rw [if_neg h2] at h
      rw [if_neg h2]
      by_cases h3 : (decR s).2 ≠ 0
      · rw [if_pos h3] at h; exact absurd h h3
      · rw [if_neg h3] at h
        rw [if_neg h3]
        by_cases h4 : (decR s).1.id ≠ id
        · rw [if_pos h4] at h; exact absurd h (by simp)
        · rw [if_neg h4]
          rcases decR_cases s with ⟨n, hn, hd⟩ | ⟨hd, h5, h6, _⟩
          · rw [hd] at h3; exact absurd hn h3
          · exact ⟨h5, h6, by simpa using h4⟩
theorem leL_inj {n m : Int} (h : leL n 8 = leL m 8) (hn0 : 0 ≤ n) (hn1 : n ≤ 1099511627776) (hm0 : 0 ≤ m) (hm1 : m ≤ 1099511627776) : n = m := by
  have e1 := leNum_of (ofL (leL n 8)) 0 n 8 (fun i hi => by rw [ofL_list, Nat.zero_add]; exact leL_get n 8 i hi)
  have e2 := leNum_of (ofL (leL m 8)) 0 m 8 (fun i hi => by rw [ofL_list, Nat.zero_add]; exact leL_get m 8 i hi)
  rw [h] at e1
  omega
/-- bytes that begin and end with a number -/
structure Ver (s : ByteArray) (n : Int) : Prop where
  size : s.size = 256
  first : s.data.toList.take 8 = leL n 8
  last : s.data.toList.drop 248 = leL n 8
theorem ver_enc {p : Pg} (h : checkR p = 0) (hl : p.cells.length = 16) : Ver (ofL (encL p)) p.lsn := by
  have hs := small_of_check h
  have hbl : (bodyL p).length = 244 := by unfold bodyL; rw [List.length_append, List.length_append, headL_length, cellsL_length _ hs, hl, List.length_replicate]
  refine ⟨by rw [ofL_size, encL_length p hl hs], ?_, ?_⟩
  · rw [ofL_list]
    unfold encL bodyL headL
    simp only [List.append_assoc]
    rw [List.take_left' (by rw [leL_length])]
  · rw [ofL_list]
    unfold encL
    rw [List.drop_left' (by rw [List.length_append, hbl, leL_length])]
theorem ver_blank : Ver (zeroS 256) 0 := ⟨zeroS_size 256, by kernel_rfl, by kernel_rfl⟩
theorem ext_list (s : ByteArray) (a b : Nat) : (s.extract a b).data.toList = (s.data.toList.drop a).take (b - a) := by
  have h := congrArg (fun t => t.data.toList) (ofL_extract s.data.toList a b)
  rw [ofL_str, ofL_list] at h
  exact h
theorem cut_list (a b : List UInt8) (ha : a.length = 256) (k : Nat) (hk : k ≤ 256) (fa : a.take 8 = a.drop 248) (fb : b.take 8 = b.drop 248) (hne : a.take 8 ≠ b.take 8)
    (hx : (a.take k ++ b.drop k).take 8 = (a.take k ++ b.drop k).drop 248) : a.take k ++ b.drop k = a ∨ a.take k ++ b.drop k = b := by
  have hl : (a.take k).length = k := by rw [List.length_take]; omega
  by_cases h8 : k ≤ 8
  · right
    have e1 : (a.take k ++ b.drop k).drop 248 = b.drop 248 := by
      rw [List.drop_append, hl, List.drop_drop, show k + (248 - k) = 248 from by omega, List.drop_eq_nil_of_le (by omega)]; rfl
    have e2 : (a.take k ++ b.drop k).drop 8 = b.drop 8 := by
      rw [List.drop_append, hl, List.drop_drop, show k + (8 - k) = 8 from by omega, List.drop_eq_nil_of_le (by omega)]; rfl
    rw [e1, ← fb] at hx
    rw [← List.take_append_drop 8 (a.take k ++ b.drop k), hx, e2, List.take_append_drop]
  · have e1 : (a.take k ++ b.drop k).take 8 = a.take 8 := by
      rw [List.take_append_of_le_length (by omega), List.take_take, Nat.min_eq_left (by omega)]
    by_cases h248 : k ≤ 248
    · exfalso
      have e2 : (a.take k ++ b.drop k).drop 248 = b.drop 248 := by
        rw [List.drop_append, hl, List.drop_drop, show k + (248 - k) = 248 from by omega, List.drop_eq_nil_of_le (by omega)]; rfl
      rw [e1, e2, ← fb] at hx
      exact hne hx
    · left
      have e2 : (a.take k ++ b.drop k).take 248 = a.take 248 := by
        rw [List.take_append_of_le_length (by omega), List.take_take, Nat.min_eq_left (by omega)]
      rw [e1, fa] at hx
      rw [← List.take_append_drop 248 (a.take k ++ b.drop k), ← hx, e2, List.take_append_drop]
theorem tear {s t : ByteArray} {n m : Int} (hs : Ver s n) (ht : Ver t m) (hn0 : 0 ≤ n) (hn1 : n ≤ 1099511627776) (hm0 : 0 ≤ m) (hm1 : m ≤ 1099511627776) (hnm : n ≠ m) (k : Nat) (hk : k ≤ 256) (id : Int)
    (h : (idR (s.extract 0 k ++ t.extract k 256) id).2 = 0) : ((s.extract 0 k ++ t.extract k 256) = s ∨ (s.extract 0 k ++ t.extract k 256) = t) ∧ (idR (s.extract 0 k ++ t.extract k 256) id).1.id = id := by
  obtain ⟨h1, h2, h3⟩ := idR_ok h
  refine ⟨?_, h3⟩
  have hxl : (s.extract 0 k ++ t.extract k 256).data.toList = s.data.toList.take k ++ t.data.toList.drop k := by
    rw [str_app, ext_list, ext_list, List.drop_zero, Nat.sub_zero, List.take_of_length_le (l := t.data.toList.drop k) (by rw [List.length_drop, size_list, ht.size]; omega)]
  have h2' := congrArg (fun u => u.data.toList) h2
  rw [ext_list, ext_list, hxl, List.drop_zero, Nat.sub_zero] at h2'
  have hlen : (s.data.toList.take k ++ t.data.toList.drop k).length = 256 := by rw [List.length_append, List.length_take, List.length_drop, size_list, size_list, hs.size, ht.size]; omega
  rw [List.take_of_length_le (l := (s.data.toList.take k ++ t.data.toList.drop k).drop 248) (by rw [List.length_drop, hlen]; omega)] at h2'
  rcases cut_list s.data.toList t.data.toList (by rw [size_list, hs.size]) k hk (by rw [hs.first, hs.last]) (by rw [ht.first, ht.last]) (by rw [hs.first, ht.first]; exact fun e => hnm (leL_inj e hn0 hn1 hm0 hm1)) h2' with e | e
  · exact .inl (str_eq (by rw [hxl, e]))
  · exact .inr (str_eq (by rw [hxl, e]))
end Go.Proofs.YtoceglomogcgcaaDoor
