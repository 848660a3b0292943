/- plain facts: bytes in which one was changed are those of no page -/
import Derived.Test.YtoceglomogcgcaaDoorPgTear
namespace Go.Proofs.YtoceglomogcgcaaDoor
open Go.RowKit

theorem getD_set (l : List UInt8) (k i : Nat) (c : UInt8) (h : k < l.length) : (l.set k c).getD i 0 = if i = k then c else l.getD i 0 := by
  by_cases e : i = k
  · subst e
    rw [if_pos rfl, List.getD_eq_getElem?_getD, List.getElem?_set_self h]
    rfl
  · rw [if_neg e, List.getD_eq_getElem?_getD, List.getElem?_set_ne (by omega), ← List.getD_eq_getElem?_getD]
theorem decR_sum {s : ByteArray} (h : (decR s).2 = 0) : wrap64 (leNum s 244 4) = ((Crc.sum (s.data.toList.take 244)).toNat : Int) := by
  unfold decR at h
  by_cases h1 : s.size ≠ 256
  · rw [if_pos h1] at h; exact absurd h (by simp)
  · rw [if_neg h1] at h
    by_cases h2 : s = zeroS 256
    · rw [if_pos h2] at h; exact absurd h (by simp)
    · rw [if_neg h2] at h
      by_cases h3 : s.extract 0 8 ≠ s.extract 248 256
      · rw [if_pos h3] at h; exact absurd h (by simp)
      · rw [if_neg h3] at h
        by_cases h4 : wrap64 (leNum s 244 4) ≠ ((Crc.sum (s.extract 0 244).data.toList).toNat : Int)
        · rw [if_pos h4] at h; exact absurd h (by simp)
        · have := Classical.not_not.1 h4
          rw [ext_list, List.drop_zero] at this
          exact this
/-- first and last bytes are the same -/
def Ends (l : List UInt8) : Prop := ∀ i, i < 8 → l.getD i 0 = l.getD (248 + i) 0
theorem ends_of {s : ByteArray} (h : s.extract 0 8 = s.extract 248 256) : Ends s.data.toList := by
  intro i hi
  have h2 := congrArg (fun u => u.data.toList.getD i 0) h
  have h3 : (s.extract 0 8).data.toList.getD i 0 = (s.extract 248 256).data.toList.getD i 0 := h2
  rw [ext_list, ext_list, getD_take_drop _ _ _ _ hi, getD_take_drop _ _ _ _ (by omega), Nat.zero_add] at h3
  exact h3
theorem ends_ver {s : ByteArray} {n : Int} (h : Ver s n) : Ends s.data.toList := by
  intro i hi
  have h1 : (s.data.toList.take 8).getD i 0 = (s.data.toList.drop 248).getD i 0 := by rw [h.first, h.last]
  have e1 : (s.data.toList.take 8).getD i 0 = s.data.toList.getD i 0 := by
    have := getD_take_drop s.data.toList 0 8 i hi
    rw [List.drop_zero, Nat.zero_add] at this
    exact this
  have e2 : (s.data.toList.drop 248).getD i 0 = s.data.toList.getD (248 + i) 0 := by
    simp only [List.getD_eq_getElem?_getD, List.getElem?_drop]
  rw [e1, e2] at h1
  exact h1
theorem ends_mid {X : List UInt8} {k : Nat} {c : UInt8} (hl : X.length = 256) (hk : k < 256) (hc : c ≠ X.getD k 0) (hX : Ends X) (hY : Ends (X.set k c)) : 8 ≤ k ∧ k < 248 := by
  refine ⟨?_, ?_⟩
  · apply Classical.byContradiction
    intro h
    have h1 := hY k (by omega)
    have h2 := hX k (by omega)
    rw [getD_set _ _ _ _ (by omega), getD_set _ _ _ _ (by omega), if_pos rfl, if_neg (by omega)] at h1
    exact hc (by rw [h1, ← h2])
  · apply Classical.byContradiction
    intro h
    have h1 := hY (k - 248) (by omega)
    have h2 := hX (k - 248) (by omega)
    rw [getD_set _ _ _ _ (by omega), getD_set _ _ _ _ (by omega), if_neg (by omega), if_pos (by omega)] at h1
    rw [show 248 + (k - 248) = k from by omega] at h2
    exact hc (by rw [← h1, h2])
theorem lsn_of_first {s : ByteArray} {n : Int} (h : Ver s n) (hz : ∀ i, i < 8 → s.data.toList.getD i 0 = 0) : leL n 8 = leL 0 8 := by
  apply List.ext_getElem
  · rw [leL_length, leL_length]
  · intro i h1 h2
    have hi : i < 8 := by rw [leL_length] at h1; exact h1
    have e : (s.data.toList.take 8).getD i 0 = s.data.toList.getD i 0 := by
      have := getD_take_drop s.data.toList 0 8 i hi
      rw [List.drop_zero, Nat.zero_add] at this
      exact this
    rw [h.first, hz i hi, List.getD_eq_getElem?_getD, List.getElem?_eq_getElem h1] at e
    have e2 : (leL 0 8)[i]'h2 = 0 := by
      have h3 : (leL 0 8)[i]'h2 = leB 0 i := leL_getD 0 8 i hi
      rw [h3]
      apply UInt8.toNat_inj.1
      have := leB_toNat 0 i
      simp at this
      simpa using this
    rw [e2]
    exact e
theorem blank_lens {p : Pg} (h : checkR p = 0) (hl : p.cells.length = 16) (h0 : p.lsn = 0) (k : Nat) (hk : k < 16) : lenAt (ofL (encL p)) (12 + k * 13) = 255 := by
  have hkl : k < p.cells.length := by omega
  rw [encL_lenAt p hl (small_of_check h) k hk, (cell_of_check h (List.getElem_mem hkl)).2.2 h0]
  rfl
theorem zeroS_get (i : Nat) : (zeroS 256).data.toList.getD i 0 = 0 := by
  have : (zeroS 256).data.toList = List.replicate 256 0 := rfl
  rw [this, List.getD_eq_getElem?_getD, List.getElem?_replicate]
  split <;> rfl
/-- a page's bytes with one changed -/
theorem damaged {p : Pg} (h : checkR p = 0) (hl : p.cells.length = 16) {y : ByteArray} {k : Nat} {c : UInt8} (hk : k < 256) (hc : c ≠ (encL p).getD k 0) (hy : y.data.toList = (encL p).set k c) :
    (decR y).2 ≠ 0 ∧ (decR y).2 ≠ 7 := by
  have hlen : (encL p).length = 256 := encL_length p hl (small_of_check h)
  have hv := ver_enc h hl
  have hX : Ends (encL p) := by have := ends_ver hv; rw [ofL_list] at this; exact this
  have hD := dec_enc h hl
  have hS : wrap64 (leNum (ofL (encL p)) 244 4) = ((Crc.sum ((encL p).take 244)).toNat : Int) := by
    have := decR_sum (s := ofL (encL p)) (by rw [hD])
    rw [ofL_list] at this
    exact this
  refine ⟨fun h0 => ?_, fun h7 => ?_⟩
  · rcases decR_cases y with ⟨n, hn, hd⟩ | ⟨hd, h5, h6, _⟩
    · rw [hd] at h0; exact hn h0
    · have hY := ends_of h6
      rw [hy] at hY
      obtain ⟨k8, k248⟩ := ends_mid hlen hk hc hX hY
      have hsy := decR_sum h0
      rw [hy] at hsy
      have hq1 := leNum_lt y 244 4
      have hq2 := leNum_lt (ofL (encL p)) 244 4
      by_cases h244 : k < 244
      · have e : leNum y 244 4 = leNum (ofL (encL p)) 244 4 := leNum_congr _ _ _ _ (fun i hi => by
          rw [hy, ofL_list, getD_set _ _ _ _ (by omega), if_neg (by omega)])
        rw [e, hS] at hsy
        have e2 : Crc.sum (((encL p).set k c).take 244) = Crc.sum ((encL p).take 244) := by
          apply BitVec.eq_of_toNat_eq
          omega
        have e3 : ((encL p).set k c).take 244 = (encL p).take k ++ ([c] ++ ((encL p).take 244).drop (k + 1)) := by
          rw [List.take_set, List.set_eq_take_append_cons_drop, if_pos (by rw [List.length_take]; omega), List.take_take, Nat.min_eq_left (by omega)]
          rfl
        have e4 : (encL p).take 244 = (encL p).take k ++ ([(encL p).getD k 0] ++ ((encL p).take 244).drop (k + 1)) := by
          have hg : ((encL p).take 244)[k]'(by rw [List.length_take]; omega) = (encL p).getD k 0 := by
            rw [List.getElem_take, List.getD_eq_getElem?_getD, List.getElem?_eq_getElem (by omega)]
            rfl
          have := List.take_append_drop k ((encL p).take 244)
          rw [List.drop_eq_getElem_cons (by rw [List.length_take]; omega), hg, List.take_take, Nat.min_eq_left (by omega)] at this
          exact this.symm
        rw [e3] at e2
        conv at e2 => rhs; rw [e4]
        have := Crc.sum_inj ((encL p).take k) (((encL p).take 244).drop (k + 1)) [c] [(encL p).getD k 0] rfl (by simp) e2
        exact hc (by simpa using this)
      · have e : ((encL p).set k c).take 244 = (encL p).take 244 := by rw [List.take_set, List.set_eq_of_length_le (by rw [List.length_take]; omega)]
        rw [e, ← hS] at hsy
        have e2 : leNum y 244 4 = leNum (ofL (encL p)) 244 4 := by
          unfold wrap64 at hsy
          omega
        have := leNum_inj _ _ _ _ e2 (k - 244) (by omega)
        rw [hy, ofL_list, show 244 + (k - 244) = k from by omega, getD_set _ _ _ _ (by omega), if_pos rfl] at this
        exact hc this
  · have hz := decR_blank h7
    have hyz : ∀ i, ((encL p).set k c).getD i 0 = 0 := fun i => by rw [← hy, hz]; exact zeroS_get i
    obtain ⟨k8, k248⟩ := ends_mid hlen hk hc hX (fun i _ => by rw [hyz, hyz])
    have hl0 : p.lsn = 0 := by
      obtain ⟨_, _, r2, r3⟩ := num_ranges (of_check h).1
      refine leL_inj (lsn_of_first hv (fun i hi => ?_)) r2 r3 (by omega) (by omega)
      have := hyz i
      rw [getD_set _ _ _ _ (by omega), if_neg (by omega)] at this
      rw [ofL_list]
      exact this
    have l1 := blank_lens h hl hl0 0 (by omega)
    have l2 := blank_lens h hl hl0 1 (by omega)
    unfold lenAt at l1 l2
    rw [ofL_list] at l1 l2
    have z1 := hyz 12
    have z2 := hyz 25
    rw [getD_set _ _ _ _ (by omega)] at z1 z2
    by_cases k12 : 12 = k
    · rw [if_neg (by omega)] at z2
      have l2' : ((encL p).getD 25 0).toNat = 255 := l2
      rw [z2] at l2'
      exact absurd l2' (by decide)
    · rw [if_neg k12] at z1
      have l1' : ((encL p).getD 12 0).toNat = 255 := l1
      rw [z1] at l1'
      exact absurd l1' (by decide)
/-- blank bytes with one changed -/
theorem damaged_blank {y : ByteArray} {k : Nat} {c : UInt8} (hk : k < 256) (hc : c ≠ 0) (hy : y.data.toList = (zeroS 256).data.toList.set k c) : (decR y).2 ≠ 0 ∧ (decR y).2 ≠ 7 := by
  have hlen : (zeroS 256).data.toList.length = 256 := by rw [size_list, zeroS_size]
  refine ⟨fun h0 => ?_, fun h7 => ?_⟩
  · rcases decR_cases y with ⟨n, hn, hd⟩ | ⟨hd, h5, h6, he⟩
    · rw [hd] at h0; exact hn h0
    · have hY := ends_of h6
      rw [hy] at hY
      obtain ⟨k8, k248⟩ := ends_mid hlen hk (by rw [zeroS_get]; exact hc) (fun i _ => by rw [zeroS_get, zeroS_get]) hY
      have hch : checkR (parseR y) = 0 := by
        apply Classical.byContradiction
        intro hne
        unfold encR at he
        rw [if_neg hne] at he
        exact hne (Prod.mk.inj he).2
      have hs : ofL (encL (parseR y)) = y := by
        unfold encR at he
        rw [if_pos hch] at he
        exact (Prod.mk.inj he).1
      have hl : (parseR y).cells.length = 16 := by simp [parseR]
      have hv := ver_enc hch hl
      rw [hs] at hv
      have hl0 : (parseR y).lsn = 0 := by
        obtain ⟨_, _, r2, r3⟩ := num_ranges (of_check hch).1
        refine leL_inj (lsn_of_first hv (fun i hi => ?_)) r2 r3 (by omega) (by omega)
        rw [hy, getD_set _ _ _ _ (by omega), if_neg (by omega), zeroS_get]
      have l1 := blank_lens hch hl hl0 0 (by omega)
      have l2 := blank_lens hch hl hl0 1 (by omega)
      rw [hs] at l1 l2
      unfold lenAt at l1 l2
      rw [hy] at l1 l2
      by_cases k12 : 12 = k
      · have l2' : (((zeroS 256).data.toList.set k c).getD 25 0).toNat = 255 := l2
        rw [getD_set _ _ _ _ (by omega), if_neg (by omega), zeroS_get] at l2'
        exact absurd l2' (by decide)
      · have l1' : (((zeroS 256).data.toList.set k c).getD 12 0).toNat = 255 := l1
        rw [getD_set _ _ _ _ (by omega), if_neg k12, zeroS_get] at l1'
        exact absurd l1' (by decide)
  · have hz := decR_blank h7
    have : y.data.toList.getD k 0 = 0 := by rw [hz]; exact zeroS_get k
    rw [hy, getD_set _ _ _ _ (by omega), if_pos rfl] at this
    exact hc this
end Go.Proofs.YtoceglomogcgcaaDoor
