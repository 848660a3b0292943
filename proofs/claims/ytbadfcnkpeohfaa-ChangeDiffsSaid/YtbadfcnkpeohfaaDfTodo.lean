/- how many cells of two rows differ, and the changes that are left: plain facts -/
import Derived.Test.YtbadfcnkpeohfaaDfVal
namespace Go.Proofs.Ytbadfcnkpeohfaa
open Go.RowKit

noncomputable def todo : List Cl → List Cl → Nat
  | a :: l, b :: m => (if sameV a b = true then 0 else 1) + todo l m
  | _, _ => 0
theorem diffL_todo (n : Int) : ∀ (s : Nat) (a b : List Cl), (diffL n s a b).length = todo a b
  | _, [], _ => by simp [diffL, todo]
  | _, _ :: _, [] => by simp [diffL, todo]
  | s, x :: a, y :: b => by
    show ((if sameV x y = true then [] else _) ++ diffL n (s + 1) a b).length = (if sameV x y = true then 0 else 1) + todo a b
    rw [List.length_append, diffL_todo n (s + 1) a b]
    by_cases h : sameV x y = true
    · rw [if_pos h, if_pos h]; rfl
    · rw [if_neg h, if_neg h]; rfl
theorem todo_zero : ∀ (a b : List Cl), a.length = b.length → todo a b = 0 → a = b
  | [], [], _, _ => rfl
  | [], _ :: _, h, _ => by simp at h
  | _ :: _, [], h, _ => by simp at h
  | x :: a, y :: b, h, h0 => by
    have e : (if sameV x y = true then 0 else 1) + todo a b = 0 := h0
    by_cases hs : sameV x y = true
    · rw [if_pos hs] at e
      rw [sameV_iff.1 hs, todo_zero a b (by simpa using h) (by omega)]
    · rw [if_neg hs] at e; omega
theorem todo_pos : ∀ (a b : List Cl), a.length = b.length → 0 < todo a b → ∃ (s : Nat) (x y : Cl), a[s]? = some x ∧ b[s]? = some y ∧ x ≠ y
  | [], [], _, h => by simp [todo] at h
  | [], _ :: _, h, _ => by simp at h
  | _ :: _, [], h, _ => by simp at h
  | x :: a, y :: b, h, h0 => by
    by_cases hs : sameV x y = true
    · have e : (if sameV x y = true then 0 else 1) + todo a b > 0 := h0
      rw [if_pos hs] at e
      obtain ⟨s, u, v, h1, h2, h3⟩ := todo_pos a b (by simpa using h) (by omega)
      exact ⟨s + 1, u, v, h1, h2, h3⟩
    · exact ⟨0, x, y, rfl, rfl, fun e => hs (sameV_iff.2 e)⟩
theorem todo_set : ∀ (a b : List Cl) (s : Nat) (x y : Cl), a[s]? = some x → b[s]? = some y → x ≠ y → todo (a.set s y) b + 1 = todo a b
  | [], _, _, _, _, h, _, _ => by simp at h
  | _ :: _, [], _, _, _, _, h, _ => by simp at h
  | u :: a, v :: b, 0, x, y, h1, h2, h3 => by
    obtain rfl : u = x := by simpa using h1
    obtain rfl : v = y := by simpa using h2
    show (if sameV v v = true then 0 else 1) + todo a b + 1 = (if sameV u v = true then 0 else 1) + todo a b
    rw [sameV_self, if_pos rfl, if_neg (fun e => h3 (sameV_iff.1 e))]
    omega
  | u :: a, v :: b, s + 1, x, y, h1, h2, h3 => by
    have := todo_set a b s x y (by simpa using h1) (by simpa using h2) h3
    show (if sameV u v = true then 0 else 1) + todo (a.set s y) b + 1 = (if sameV u v = true then 0 else 1) + todo a b
    omega
/-- each of the changes is one of a cell that differs -/
theorem diffL_get (n : Int) : ∀ (s : Nat) (a b : List Cl) (k : Nat) (c : Chg), (diffL n s a b)[k]? = some c → ∃ (j : Nat) (x y : Cl), a[j]? = some x ∧ b[j]? = some y ∧ x ≠ y ∧ c = ⟨n, ((s + j : Nat) : Int), x, y⟩
  | _, [], _, _, _, h => by simp [diffL] at h
  | _, _ :: _, [], _, _, h => by simp [diffL] at h
  | s, x :: a, y :: b, k, c, h => by
    have e : ((if sameV x y = true then [] else [⟨n, (s : Int), x, y⟩]) ++ diffL n (s + 1) a b)[k]? = some c := h
    by_cases hs : sameV x y = true
    · rw [if_pos hs, List.nil_append] at e
      obtain ⟨j, u, v, h1, h2, h3, h4⟩ := diffL_get n (s + 1) a b k c e
      exact ⟨j + 1, u, v, h1, h2, h3, by rw [h4]; congr 2; omega⟩
    · rw [if_neg hs] at e
      cases k with
      | zero =>
        have : c = ⟨n, (s : Int), x, y⟩ := by simpa using e.symm
        exact ⟨0, x, y, rfl, rfl, fun e => hs (sameV_iff.2 e), by rw [this]; rfl⟩
      | succ k =>
        obtain ⟨j, u, v, h1, h2, h3, h4⟩ := diffL_get n (s + 1) a b k c (by simpa using e)
        exact ⟨j + 1, u, v, h1, h2, h3, by rw [h4]; congr 2; omega⟩
/-- and each cell that differs has its change -/
theorem diffL_mem (n : Int) : ∀ (s : Nat) (a b : List Cl) (j : Nat) (x y : Cl), a[j]? = some x → b[j]? = some y → x ≠ y → ∃ k : Nat, (diffL n s a b)[k]? = some (⟨n, ((s + j : Nat) : Int), x, y⟩ : Chg)
  | _, [], _, _, _, _, h, _, _ => by simp at h
  | _, _ :: _, [], _, _, _, _, h, _ => by simp at h
  | s, u :: a, v :: b, 0, x, y, h1, h2, h3 => by
    obtain rfl : u = x := by simpa using h1
    obtain rfl : v = y := by simpa using h2
    refine ⟨0, ?_⟩
    show ((if sameV u v = true then [] else [⟨n, (s : Int), u, v⟩]) ++ diffL n (s + 1) a b)[0]? = _
    rw [if_neg (fun e => h3 (sameV_iff.1 e))]
    rfl
  | s, u :: a, v :: b, j + 1, x, y, h1, h2, h3 => by
    obtain ⟨k, hk⟩ := diffL_mem n (s + 1) a b j x y (by simpa using h1) (by simpa using h2) h3
    have e : s + 1 + j = s + (j + 1) := by omega
    rw [e] at hk
    by_cases hs : sameV u v = true
    · refine ⟨k, ?_⟩
      show ((if sameV u v = true then [] else [⟨n, (s : Int), u, v⟩]) ++ diffL n (s + 1) a b)[k]? = _
      rw [if_pos hs, List.nil_append]; exact hk
    · refine ⟨k + 1, ?_⟩
      show ((if sameV u v = true then [] else [⟨n, (s : Int), u, v⟩]) ++ diffL n (s + 1) a b)[k + 1]? = _
      rw [if_neg hs]; simpa using hk
/-- what is left while changes are applied: each cell is the old one or the new one -/
structure Mid (a b r : List Cl) : Prop where
  len : r.length = a.length
  two : ∀ (s : Nat) (x y z : Cl), a[s]? = some x → b[s]? = some y → r[s]? = some z → z = x ∨ z = y
theorem Mid.start {a b : List Cl} : Mid a b a := ⟨rfl, fun s x y z h1 _ h3 => .inl (by rw [h1] at h3; exact (Option.some.inj h3).symm)⟩
theorem Mid.set {a b r : List Cl} (h : Mid a b r) (s : Nat) {y : Cl} (hy : b[s]? = some y) : Mid a b (r.set s y) :=
  ⟨by rw [List.length_set]; exact h.len, fun j x v z h1 h2 h3 => by
    by_cases e : s = j
    · subst e
      have hl : s < r.length := by
        have := (List.getElem?_eq_some_iff.1 h3).1
        rw [List.length_set] at this
        exact this
      rw [List.getElem?_set_self hl] at h3
      rw [hy] at h2
      right
      rw [← Option.some.inj h3, ← Option.some.inj h2]
    · rw [List.getElem?_set_ne e] at h3
      exact h.two j x v z h1 h2 h3⟩
/-- a change is done in r -/
def Done (r : List Cl) (c : Chg) : Prop := r.getD c.slot.toNat emptyCl = c.after
/-- if all changes are done nothing is left -/
theorem all_done {n : Int} {a b r : List Cl} (hab : a.length = b.length) (h : Mid a b r) (hd : ∀ (k : Nat) (c : Chg), (diffL n 0 a b)[k]? = some c → Done r c) : todo r b = 0 := by
  rcases Nat.eq_zero_or_pos (todo r b) with h0 | h0
  · exact h0
  obtain ⟨s, z, y, h1, h2, h3⟩ := todo_pos r b (by rw [h.len, hab]) h0
  obtain ⟨x, hx⟩ : ∃ x, a[s]? = some x := ⟨_, List.getElem?_eq_getElem (by rw [← h.len]; exact (List.getElem?_eq_some_iff.1 h1).1)⟩
  have hzx : z = x := (h.two s x y z hx h2 h1).resolve_right h3
  subst hzx
  obtain ⟨k, hk⟩ := diffL_mem n 0 a b s z y hx h2 h3
  have := hd k _ hk
  unfold Done at this
  rw [Nat.zero_add] at this
  have e : ((s : Int)).toNat = s := by omega
  simp only [e] at this
  rw [List.getD_eq_getElem?_getD, h1] at this
  exact absurd this h3
/-- a change that is not done can be done -/
theorem not_done {n : Int} {a b r : List Cl} (h : Mid a b r) {k : Nat} {c : Chg} (hc : (diffL n 0 a b)[k]? = some c) (hn : ¬ Done r c) :
    ∃ s : Nat, s < a.length ∧ c = ⟨n, (s : Int), r.getD s emptyCl, c.after⟩ ∧ b[s]? = some c.after ∧ a[s]? = some (r.getD s emptyCl) ∧ todo (r.set s c.after) b + 1 = todo r b := by
  obtain ⟨s, x, y, h1, h2, h3, rfl⟩ := diffL_get n 0 a b k c hc
  rw [Nat.zero_add] at hn ⊢
  unfold Done at hn
  have e : ((s : Int)).toNat = s := by omega
  simp only [e] at hn
  have hl := (List.getElem?_eq_some_iff.1 h1).1
  obtain ⟨z, hz⟩ : ∃ z, r[s]? = some z := ⟨_, List.getElem?_eq_getElem (by rw [h.len]; exact hl)⟩
  have hzd : r.getD s emptyCl = z := by rw [List.getD_eq_getElem?_getD, hz]; rfl
  rw [hzd] at hn
  have hzx : z = x := (h.two s x y z h1 h2 hz).resolve_right hn
  subst hzx
  exact ⟨s, hl, by rw [hzd], h2, by rw [hzd]; exact h1, todo_set r b s z y hz h2 h3⟩
/-- going round: each place comes -/
theorem round_all {P : Nat → Prop} {n k0 : Nat} (hk : k0 < n) (h : ∀ m, m < n → P ((k0 + m) % n)) : ∀ k, k < n → P k := fun k hkn => by
  by_cases hle : k0 ≤ k
  · have := h (k - k0) (by omega)
    rw [show k0 + (k - k0) = k from by omega, Nat.mod_eq_of_lt hkn] at this
    exact this
  · have := h (k + n - k0) (by omega)
    rw [show k0 + (k + n - k0) = k + n from by omega, Nat.add_mod_right, Nat.mod_eq_of_lt hkn] at this
    exact this
end Go.Proofs.Ytbadfcnkpeohfaa
