/- plain facts on texts in which up to four neighbouring bytes are changed by 'exclusive or' -/
import Derived.Test.YtccepdbglgpniaaDoorCrc
namespace Go.Proofs.YtccepdbglgpniaaDoor
namespace Crc

/-- one byte changed; nothing behind the end -/
def upd (l : List UInt8) (k : Nat) (e : UInt8) : List UInt8 := l.set k (l.getD k 0 ^^^ e)
theorem upd_length (l : List UInt8) (k : Nat) (e : UInt8) : (upd l k e).length = l.length := by simp [upd]
theorem upd_out (l : List UInt8) (k : Nat) (e : UInt8) (h : l.length ≤ k) : upd l k e = l := by unfold upd; rw [List.set_eq_of_length_le h]
theorem upd_getD (l : List UInt8) (k j : Nat) (e : UInt8) (h : k < l.length) : (upd l k e).getD j 0 = if j = k then l.getD k 0 ^^^ e else l.getD j 0 := by
  unfold upd
  rw [List.getD_eq_getElem?_getD, List.getElem?_set]
  by_cases hj : k = j
  · subst hj; rw [if_pos rfl, if_pos h, if_pos rfl, Option.getD_some]
  · rw [if_neg hj, if_neg (fun h => hj h.symm), ← List.getD_eq_getElem?_getD]
theorem upd_zero (l : List UInt8) (k : Nat) : upd l k 0 = l := by
  unfold upd
  by_cases h : k < l.length
  · apply List.ext_getElem (by simp)
    intro i h1 h2
    rw [List.getElem_set]
    by_cases hi : k = i
    · subst hi; rw [if_pos rfl, List.getD_eq_getElem?_getD, List.getElem?_eq_getElem h]; simp
    · rw [if_neg hi]
  · rw [List.set_eq_of_length_le (by omega)]
/-- m bytes changed, from p on, by e 0, e 1, .. -/
def updN (l : List UInt8) (p : Nat) (e : Nat → UInt8) : Nat → List UInt8
  | 0 => l
  | m + 1 => upd (updN l p e m) (p + m) (e m)
theorem updN_length (l : List UInt8) (p : Nat) (e : Nat → UInt8) (m : Nat) : (updN l p e m).length = l.length := by
  induction m with
  | zero => rfl
  | succ m ih => rw [updN, upd_length, ih]
/-- has anything been changed? -/
def chg (n p : Nat) (e : Nat → UInt8) : Nat → Bool
  | 0 => false
  | m + 1 => chg n p e m || (decide (p + m < n) && e m != 0)
theorem updN_same (l : List UInt8) (p : Nat) (e : Nat → UInt8) (m : Nat) (h : chg l.length p e m = false) : updN l p e m = l := by
  induction m with
  | zero => rfl
  | succ m ih =>
    rw [chg, Bool.or_eq_false_iff] at h
    rw [updN, ih h.1]
    by_cases hl : p + m < l.length
    · have h2 := h.2
      rw [decide_eq_true hl, Bool.true_and, bne_eq_false_iff_eq] at h2
      rw [h2, upd_zero]
    · exact upd_out _ _ _ (by omega)
theorem updN_getD (l : List UInt8) (p : Nat) (e : Nat → UInt8) (m j : Nat) (hj : j < l.length) : (updN l p e m).getD j 0 = if p ≤ j ∧ j < p + m then l.getD j 0 ^^^ e (j - p) else l.getD j 0 := by
  induction m with
  | zero => rw [updN, if_neg (by omega)]
  | succ m ih =>
    rw [updN]
    by_cases hl : p + m < l.length
    · rw [upd_getD _ _ _ _ (by rw [updN_length]; exact hl)]
      by_cases he : j = p + m
      · subst he
        rw [if_pos rfl, ih, if_neg (by omega), if_pos (by omega), Nat.add_sub_cancel_left]
      · rw [if_neg he, ih]
        by_cases hr : p ≤ j ∧ j < p + m
        · rw [if_pos hr, if_pos (by omega)]
        · rw [if_neg hr, if_neg (by omega)]
    · rw [upd_out _ _ _ (by rw [updN_length]; omega), ih]
      by_cases hr : p ≤ j ∧ j < p + m
      · rw [if_pos hr, if_pos (by omega)]
      · rw [if_neg hr, if_neg (by omega)]
theorem chg_iff (n p : Nat) (e : Nat → UInt8) (m : Nat) : chg n p e m = true ↔ ∃ i, i < m ∧ p + i < n ∧ e i ≠ 0 := by
  induction m with
  | zero => simp [chg]
  | succ m ih =>
    rw [chg, Bool.or_eq_true, ih, Bool.and_eq_true, decide_eq_true_iff, bne_iff_ne]
    constructor
    · rintro (⟨i, h1, h2, h3⟩ | ⟨h2, h3⟩)
      · exact ⟨i, by omega, h2, h3⟩
      · exact ⟨m, by omega, h2, h3⟩
    · rintro ⟨i, h1, h2, h3⟩
      by_cases hi : i = m
      · subst hi; exact Or.inr ⟨h2, h3⟩
      · exact Or.inl ⟨i, by omega, h2, h3⟩
theorem updN_ne (l : List UInt8) (p : Nat) (e : Nat → UInt8) (m : Nat) (h : chg l.length p e m = true) : updN l p e m ≠ l := by
  obtain ⟨i, h1, h2, h3⟩ := (chg_iff _ _ _ _).1 h
  intro he
  have hg := updN_getD l p e m (p + i) h2
  rw [he, if_pos (by omega), Nat.add_sub_cancel_left] at hg
  apply h3
  have h4 : l.getD (p + i) 0 ^^^ l.getD (p + i) 0 = l.getD (p + i) 0 ^^^ (l.getD (p + i) 0 ^^^ e i) := congrArg (fun x => l.getD (p + i) 0 ^^^ x) hg
  rw [UInt8.xor_self, ← UInt8.xor_assoc, UInt8.xor_self, UInt8.zero_xor] at h4
  exact h4.symm
/-- the checksum of a text that was changed in at most four neighbouring bytes is that of the text only if they are equal -/
theorem sum_updN (l : List UInt8) (p : Nat) (e : Nat → UInt8) (m : Nat) (hm : m ≤ 4) (hp : p ≤ l.length) : sum (updN l p e m) = sum l ↔ chg l.length p e m = false := by
  constructor
  · intro hs
    cases hc : chg l.length p e m with
    | false => rfl
    | true =>
      exfalso
      apply updN_ne l p e m hc
      have hlen := updN_length l p e m
      have split : ∀ x : List UInt8, x.length = l.length → x = x.take p ++ ((x.drop p).take m ++ x.drop (p + m)) := by
        intro x _
        rw [← List.drop_drop, List.take_append_drop, List.take_append_drop]
      have e1 : (updN l p e m).take p = l.take p := by
        apply List.ext_getElem? 
        intro j
        by_cases hj : j < p
        · rw [List.getElem?_take_of_lt hj, List.getElem?_take_of_lt hj]
          have := updN_getD l p e m j (by omega)
          rw [if_neg (by omega), List.getD_eq_getElem?_getD, List.getD_eq_getElem?_getD, List.getElem?_eq_getElem (by omega), List.getElem?_eq_getElem (by omega), Option.getD_some, Option.getD_some] at this
          rw [List.getElem?_eq_getElem (by omega), List.getElem?_eq_getElem (by omega), this]
        · rw [List.getElem?_take_eq_none (by omega), List.getElem?_take_eq_none (by omega)]
      have e2 : (updN l p e m).drop (p + m) = l.drop (p + m) := by
        apply List.ext_getElem?
        intro j
        rw [List.getElem?_drop, List.getElem?_drop]
        by_cases hj : p + m + j < l.length
        · have := updN_getD l p e m (p + m + j) hj
          rw [if_neg (by omega), List.getD_eq_getElem?_getD, List.getD_eq_getElem?_getD, List.getElem?_eq_getElem (by omega), List.getElem?_eq_getElem (by omega), Option.getD_some, Option.getD_some] at this
          rw [List.getElem?_eq_getElem (by omega), List.getElem?_eq_getElem (by omega), this]
        · rw [List.getElem?_eq_none (by omega), List.getElem?_eq_none (by omega)]
      have s1 := split (updN l p e m) hlen
      have s2 := split l rfl
      rw [e1, e2] at s1
      rw [s1] at hs
      conv at hs => rhs; rw [s2]
      have := sum_inj (l.take p) (l.drop (p + m)) (((updN l p e m).drop p).take m) ((l.drop p).take m) (by simp [hlen]) (by simp; omega) hs
      rw [s1, this]
      exact s2.symm
  · intro hc
    rw [updN_same l p e m hc]
end Crc
end Go.Proofs.YtccepdbglgpniaaDoor
