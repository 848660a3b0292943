/- plain facts on a page's bytes: a page is given back by its bytes -/
import Derived.Test.YtoceglomogcgcaaDoorPgDec2
namespace Go.Proofs.YtoceglomogcgcaaDoor
open Go.RowKit
theorem cellsL_part : ∀ (l : List Cl) (k : Nat) (h : k < l.length), (∀ c ∈ l, c.data.size ≤ 12) → ((cellsL l).drop (k * 13)).take 13 = clL l[k]
  | [], k, h, _ => by simp at h
  | c :: l, 0, _, hs => by
    show ((clL c ++ cellsL l).drop 0).take 13 = clL c
    rw [List.drop_zero, List.take_left' (clL_length c (hs c (List.mem_cons_self ..)))]
  | c :: l, k + 1, h, hs => by
    show ((clL c ++ cellsL l).drop ((k + 1) * 13)).take 13 = clL (l[k]'(by simpa using h))
    rw [show (k + 1) * 13 = 13 + k * 13 from by omega, ← List.drop_drop, List.drop_left' (clL_length c (hs c (List.mem_cons_self ..)))]
    exact cellsL_part l k (by simpa using h) (fun x hx => hs x (List.mem_cons_of_mem _ hx))
theorem encL_length (p : Pg) (hl : p.cells.length = 16) (hs : ∀ c ∈ p.cells, c.data.size ≤ 12) : (encL p).length = 256 := by
  unfold encL bodyL
  rw [List.length_append, List.length_append, List.length_append, List.length_append, headL_length, cellsL_length _ hs, hl, List.length_replicate, leL_length, leL_length]
/-- the bytes of a cell in those of a page -/
theorem encL_cell (p : Pg) (hl : p.cells.length = 16) (hs : ∀ c ∈ p.cells, c.data.size ≤ 12) (k : Nat) (h : k < 16) : ((encL p).drop (12 + k * 13)).take 13 = clL (p.cells[k]'(by omega)) := by
  have hk : k < p.cells.length := by omega
  unfold encL bodyL
  rw [List.append_assoc, List.append_assoc, List.append_assoc, ← List.drop_drop, List.drop_left' (headL_length p), List.drop_append_of_le_length (by rw [cellsL_length _ hs]; omega), List.take_append_of_le_length (by rw [List.length_drop, cellsL_length _ hs]; omega)]
  exact cellsL_part p.cells k hk hs
theorem clL_get0 (c : Cl) (h : c.data.size ≤ 12) : ((clL c).getD 0 0).toNat = if c.set then c.data.size else 255 := by
  unfold clL
  obtain ⟨st, d⟩ := c
  cases st
  · rfl
  · have h' : d.size ≤ 12 := h
    have e : (leL (d.size : Int) 1 ++ (d.data.toList ++ List.replicate (12 - d.size) 0)).getD 0 0 = leB (d.size : Int) 0 := rfl
    show ((leL (d.size : Int) 1 ++ (d.data.toList ++ List.replicate (12 - d.size) 0)).getD 0 0).toNat = d.size
    rw [e]
    have := leB_toNat (d.size : Int) 0
    omega
theorem getD_take_drop (l : List UInt8) (a n i : Nat) (h : i < n) : ((l.drop a).take n).getD i 0 = l.getD (a + i) 0 := by
  simp only [List.getD_eq_getElem?_getD, List.getElem?_take, if_pos h, List.getElem?_drop]
theorem encL_lenAt (p : Pg) (hl : p.cells.length = 16) (hs : ∀ c ∈ p.cells, c.data.size ≤ 12) (k : Nat) (h : k < 16) :
    lenAt (ofL (encL p)) (12 + k * 13) = if (p.cells[k]'(by omega)).set then (p.cells[k]'(by omega)).data.size else 255 := by
  unfold lenAt
  rw [ofL_list, ← clL_get0 _ (hs _ (List.getElem_mem _)), ← encL_cell p hl hs k h, getD_take_drop _ _ _ _ (by omega)]
  rfl
theorem ofL_extract (l : List UInt8) (a b : Nat) : (ofL l).extract a b = ofL ((l.drop a).take (b - a)) := by
  apply str_eq
  rw [ofL_list]
  simp [ofL, List.extract_eq_take_drop]
theorem ofL_str (s : ByteArray) : ofL s.data.toList = s := str_eq (ofL_list _)
/-- what makes a page valid -/
theorem of_check {p : Pg} (h : checkR p = 0) : numB p = true ∧ cellsB p = true := by
  unfold checkR at h
  by_cases hn : numB p = false
  · rw [if_pos hn] at h; exact absurd h (by decide)
  · rw [if_neg hn] at h
    by_cases hc : cellsB p = false
    · rw [if_pos hc] at h; exact absurd h (by decide)
    · exact ⟨by simpa using hn, by simpa using hc⟩
theorem num_ranges {p : Pg} (h : numB p = true) : 0 ≤ p.id ∧ p.id < 64 ∧ 0 ≤ p.lsn ∧ p.lsn ≤ 1099511627776 := by
  unfold numB at h
  simpa using h
theorem cell_of_check {p : Pg} (h : checkR p = 0) {c : Cl} (hc : c ∈ p.cells) : c.data.size ≤ 12 ∧ (c.set = false → c.data.size = 0) ∧ (p.lsn = 0 → c.set = false) := by
  have := (of_check h).2
  unfold cellsB at this
  rw [List.all_eq_true] at this
  have := this c hc
  unfold cellB cellOkB at this
  simp at this
  refine ⟨this.1.1, fun hs => ?_, fun hz => ?_⟩
  · rcases this.1.2 with h | h
    · rw [hs] at h; exact absurd h (by decide)
    · rw [h]; rfl
  · rcases this.2 with h | h
    · exact absurd hz h
    · exact h
theorem long_refused {s : ByteArray} (h : encR (parseR s) = (s, 0)) (k : Nat) (hk : k < 16) : lenAt s (12 + k * 13) ≤ 12 ∨ lenAt s (12 + k * 13) = 255 := by
  have hc : checkR (parseR s) = 0 := by
    apply Classical.byContradiction
    intro hne
    unfold encR at h
    rw [if_neg hne] at h
    exact hne (Prod.mk.inj h).2
  have hs : ofL (encL (parseR s)) = s := by
    unfold encR at h
    rw [if_pos hc] at h
    exact (Prod.mk.inj h).1
  have hl : (parseR s).cells.length = 16 := by simp [parseR]
  have e := encL_lenAt (parseR s) hl (small_of_check hc) k hk
  rw [hs] at e
  rw [e]
  by_cases hst : ((parseR s).cells[k]'(by omega)).set = true
  · rw [if_pos hst]; exact .inl (small_of_check hc _ (List.getElem_mem _))
  · rw [if_neg hst]; exact .inr rfl
theorem parse_cell {p : Pg} (h : checkR p = 0) (hl : p.cells.length = 16) (k : Nat) (hk : k < 16) : clAt (ofL (encL p)) (12 + k * 13) = p.cells[k]'(by omega) := by
  have hs := small_of_check h
  have hkl : k < p.cells.length := by omega
  have hm := cell_of_check h (List.getElem_mem hkl)
  have e := encL_lenAt p hl hs k hk
  have hc := encL_cell p hl hs k hk
  unfold clAt
  rw [e]
  have hX : (ofL (encL p)).extract (12 + k * 13 + 1) (12 + k * 13 + 1 + min (p.cells[k].data.size) 12) = p.cells[k].data := by
    rw [ofL_extract]
    have hd : (encL p).drop (12 + k * 13 + 1) = ((encL p).drop (12 + k * 13)).drop 1 := by rw [List.drop_drop]
    have ht : (((encL p).drop (12 + k * 13)).drop 1).take 12 = (clL p.cells[k]).drop 1 := by rw [← hc, List.drop_take]
    have hl1 : (leL (if p.cells[k].set then (p.cells[k].data.size : Int) else 255) 1).length = 1 := leL_length _ _
    have e12 : (((encL p).drop (12 + k * 13)).drop 1).take p.cells[k].data.size = ((((encL p).drop (12 + k * 13)).drop 1).take 12).take p.cells[k].data.size := by rw [List.take_take, Nat.min_eq_left hm.1]
    rw [hd, show 12 + k * 13 + 1 + min p.cells[k].data.size 12 - (12 + k * 13 + 1) = p.cells[k].data.size from by have := hm.1; omega, e12, ht]
    unfold clL
    rw [List.drop_left' hl1, List.take_left' (size_list _), ofL_str]
  generalize p.cells[k] = c at *
  obtain ⟨st, d⟩ := c
  cases st
  · have hd : d = ⟨#[]⟩ := by
      have : d.size = 0 := hm.2.1 rfl
      apply str_eq
      exact List.eq_nil_of_length_eq_zero (by rw [size_list]; exact this)
    subst hd
    rfl
  · have : d.size ≤ 12 := hm.1
    simp only [if_true] at e ⊢
    rw [if_neg (by omega)]
    simp only at hX
    rw [hX]
theorem encL_get_lsn (p : Pg) (i : Nat) (h : i < 8) : (encL p).getD i 0 = leB p.lsn i := by
  unfold encL bodyL headL
  simp only [List.append_assoc]
  rw [List.getD_eq_getElem?_getD, List.getElem?_append_left (by rw [leL_length]; exact h), ← List.getD_eq_getElem?_getD]
  exact leL_get p.lsn 8 i h
theorem encL_get_id (p : Pg) (i : Nat) (h : i < 4) : (encL p).getD (8 + i) 0 = leB p.id i := by
  unfold encL bodyL headL
  simp only [List.append_assoc]
  rw [List.getD_eq_getElem?_getD, List.getElem?_append_right (by rw [leL_length]; omega), leL_length, Nat.add_sub_cancel_left, List.getElem?_append_left (by rw [leL_length]; exact h), ← List.getD_eq_getElem?_getD]
  exact leL_get p.id 4 i h
theorem parse_enc {p : Pg} (h : checkR p = 0) (hl : p.cells.length = 16) : parseR (ofL (encL p)) = p := by
  obtain ⟨h0, h1, h2, h3⟩ := num_ranges (of_check h).1
  have e0 : wrap64 (leNum (ofL (encL p)) 8 4) = p.id := by
    rw [leNum_of _ 8 p.id 4 (fun i hi => by rw [ofL_list]; exact encL_get_id p i hi)]
    unfold wrap64; omega
  have e1 : wrap64 (leNum (ofL (encL p)) 0 8) = p.lsn := by
    rw [leNum_of _ 0 p.lsn 8 (fun i hi => by rw [ofL_list, Nat.zero_add]; exact encL_get_lsn p i hi)]
    unfold wrap64; omega
  unfold parseR
  rw [e0, e1]
  have e2 : (List.range 16).map (fun j => clAt (ofL (encL p)) (12 + j * 13)) = p.cells := by
    apply List.ext_getElem
    · rw [List.length_map, List.length_range, hl]
    · intro k h1 h2
      rw [List.getElem_map, List.getElem_range]
      exact parse_cell h hl k (by omega)
  rw [e2]
theorem blank_bad22 : checkR (parseR (zeroS 256)) = 22 := by kernel_rfl
theorem blank_bad : checkR (parseR (zeroS 256)) ≠ 0 := by rw [blank_bad22]; decide
theorem dec_enc {p : Pg} (h : checkR p = 0) (hl : p.cells.length = 16) : decR (ofL (encL p)) = (p, 0) := by
  have hs := small_of_check h
  have hz : (ofL (encL p)).size = 256 := by rw [ofL_size, encL_length p hl hs]
  have hb : ofL (encL p) ≠ zeroS 256 := by
    intro e
    have := parse_enc h hl
    rw [e] at this
    exact blank_bad (by rw [this]; exact h)
  have hbl : (bodyL p).length = 244 := by unfold bodyL; rw [List.length_append, List.length_append, headL_length, cellsL_length _ hs, hl, List.length_replicate]
  have hA : (ofL (encL p)).extract 0 8 = ofL (leL p.lsn 8) := by
    rw [ofL_extract]
    unfold encL bodyL headL
    simp only [List.append_assoc, List.drop_zero]
    rw [List.take_left' (by rw [leL_length])]
  have hB : (ofL (encL p)).extract 248 256 = ofL (leL p.lsn 8) := by
    rw [ofL_extract]
    unfold encL
    rw [List.drop_left' (by rw [List.length_append, hbl, leL_length]), List.take_of_length_le (by rw [leL_length]; omega)]
  have hC : (ofL (encL p)).extract 0 244 = ofL (bodyL p) := by
    rw [ofL_extract]
    unfold encL
    rw [List.append_assoc, List.drop_zero, List.take_left' hbl]
  have hD : wrap64 (leNum (ofL (encL p)) 244 4) = ((Crc.sum (bodyL p)).toNat : Int) := by
    rw [leNum_of _ 244 ((Crc.sum (bodyL p)).toNat : Int) 4 (fun i hi => by
      rw [ofL_list]
      unfold encL
      rw [List.append_assoc, List.getD_eq_getElem?_getD, List.getElem?_append_right (by rw [hbl]; omega), hbl, Nat.add_sub_cancel_left, List.getElem?_append_left (by rw [leL_length]; exact hi), ← List.getD_eq_getElem?_getD]
      exact leL_get _ 4 i hi)]
    have := (Crc.sum (bodyL p)).isLt
    unfold wrap64; omega
  unfold decR
  rw [if_neg (by rw [hz]; decide), if_neg hb, if_neg (by rw [hA, hB]; simp), if_neg (by rw [hD, hC, ofL_list]; simp), parse_enc h hl, if_pos (by unfold encR; rw [if_pos h])]
end Go.Proofs.YtoceglomogcgcaaDoor
