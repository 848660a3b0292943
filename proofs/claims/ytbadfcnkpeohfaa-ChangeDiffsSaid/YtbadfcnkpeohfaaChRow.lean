/- rows of changes of one cell, and the walk of joined -/
import Derived.Test.YtbadfcnkpeohfaaLwCh
import Derived.Test.YtbadfcnkpeohfaaLwHp
namespace Go.Proofs.Ytbadfcnkpeohfaa
open Go.RowKit

/-- changes of cell s of page 2, one behind the other: from c to the cells of a list -/
def links (s : Int) : Cl → List Cl → List Chg
  | _, [] => []
  | c, x :: xs => ⟨2, s, c, x⟩ :: links s x xs
def endOf : Cl → List Cl → Cl
  | c, [] => c
  | _, x :: xs => endOf x xs
theorem links_length (s : Int) : ∀ (c : Cl) (xs : List Cl), (links s c xs).length = xs.length
  | _, [] => rfl
  | c, x :: xs => by show (links s x xs).length + 1 = _; rw [links_length s x xs]; rfl
theorem endOf_append : ∀ (c : Cl) (xs ys : List Cl), endOf c (xs ++ ys) = endOf (endOf c xs) ys
  | _, [], _ => rfl
  | _, x :: xs, ys => endOf_append x xs ys
theorem links_append (s : Int) : ∀ (c : Cl) (xs ys : List Cl), links s c (xs ++ ys) = links s c xs ++ links s (endOf c xs) ys
  | _, [], _ => rfl
  | c, x :: xs, ys => by show _ :: links s x (xs ++ ys) = _; rw [links_append s x xs ys]; rfl
theorem links_get (s : Int) : ∀ (c : Cl) (xs : List Cl) (k : Nat) (h : k < xs.length), (links s c xs)[k]? = some ⟨2, s, endOf c (xs.take k), xs[k]⟩
  | _, [], k, h => by simp at h
  | _, x :: xs, 0, _ => rfl
  | c, x :: xs, k + 1, h => by
    show (links s x xs)[k]? = _
    rw [links_get s x xs k (by simpa using h)]
    rfl
theorem endOf_take (c : Cl) (xs : List Cl) (k : Nat) (h : k < xs.length) : endOf c (xs.take (k + 1)) = xs[k] := by
  rw [List.take_succ_eq_append_getElem h, endOf_append]
  rfl
/-- a row of changes lies at a place of a block -/
def ChRow (W : World) (g off : Nat) (l : List Chg) : Prop := g < W.heap.size ∧ ∀ k x, l[k]? = some x → W.rangeAt g (off + k * 6) (chCells x)
theorem ChRow.below {W W' : World} {g off : Nat} {l : List Chg} (h : ChRow W g off l) {B : Nat} (hb : Below B W W') (hg : g < B) : ChRow W' g off l :=
  ⟨Nat.lt_of_lt_of_le h.1 hb.size, fun k x hx j v hv => (hb.cell (p := ⟨g, off + k * 6 + j, none⟩) hg).trans (h.2 k x hx j v hv)⟩
theorem ChRow.calls {W W' : World} {g off : Nat} {l : List Chg} (h : ChRow W g off l) (hb : Below W.heap.size W W') : ChRow W' g off l := h.below hb h.1
theorem flat_get : ∀ (l : List Chg) (k : Nat) (x : Chg), l[k]? = some x → ∀ j v, (chCells x)[j]? = some v → (l.flatMap chCells)[k * 6 + j]? = some v
  | [], k, x, h, _, _, _ => by simp at h
  | y :: l, 0, x, h, j, v, hv => by
    obtain rfl : y = x := by simpa using h
    rw [List.flatMap_cons, Nat.zero_mul, Nat.zero_add, List.getElem?_append_left (List.getElem?_eq_some_iff.1 hv).1]
    exact hv
  | y :: l, k + 1, x, h, j, v, hv => by
    rw [List.flatMap_cons, show (k + 1) * 6 + j = 6 + (k * 6 + j) from by omega, List.getElem?_append_right (by rw [cells_length]; omega), cells_length, Nat.add_sub_cancel_left]
    exact flat_get l k x (by simpa using h) j v hv
theorem chRow_own {B : Nat} {W : World} {n : Nat} {v : Value} {l : List Chg} (h : W.ownsRow B 29 6 v n (l.flatMap chCells)) {g cap : Nat} (hv : v = .slice (some ⟨g, 0, none⟩) n cap) : ChRow W g 0 l :=
  ⟨(h.lt g (by rw [hv]; rfl)).2, fun k x hx => own_range h hv (0 + k * 6) _ (fun j u hu => by rw [Nat.zero_add]; exact flat_get l k x hx j u hu)⟩
theorem ChRow.drop {W : World} {g off : Nat} {l m : List Chg} (h : ChRow W g off (l ++ m)) : ChRow W g (off + l.length * 6) m :=
  ⟨h.1, fun k x hx => by
    have := h.2 (l.length + k) x (by rw [List.getElem?_append_right (by omega), Nat.add_sub_cancel_left]; exact hx)
    rw [show off + (l.length + k) * 6 = off + l.length * 6 + k * 6 from by rw [Nat.add_mul, Nat.add_assoc]] at this
    exact this⟩
theorem ChRow.take {W : World} {g off : Nat} {l m : List Chg} (h : ChRow W g off (l ++ m)) : ChRow W g off l :=
  ⟨h.1, fun k x hx => h.2 k x (by rw [List.getElem?_append_left (List.getElem?_eq_some_iff.1 hx).1]; exact hx)⟩
theorem elem_ch : ElemIs 29 6 64 := ⟨⟨_, _, rfl, rfl, rfl, rfl, rfl⟩, by decide, by decide, by decide⟩
theorem ch_after (c : Chg) : ∀ j v, (clCells c.after)[j]? = some v → (chCells c)[4 + j]? = some v
  | 0, _, hv => hv
  | 1, _, hv => hv
  | j + 2, v, hv => by simp [clCells] at hv
theorem one_ch (c : Chg) : ∀ u ∈ ([chCells c] : List (List Value)).flatMap id, u.oneCell' = true := by
  have : ([chCells c] : List (List Value)).flatMap id = chCells c := by simp
  rw [this]
  exact all_one (oneCell_ch c)
theorem draw_cell (C : Nat) (w : World) (h : CodesOk w C) :
    Calls Try.prog 27 #[.pointer (some ⟨C, 0, none⟩)] w fun e w' => ∃ c : Cl, e = .returned (.agg (clCells c).toArray) ∧ cellOkB c = true ∧ Besides C w w' ∧ CodesOk w' C := cell_any C w h
theorem own_pos {B : Nat} {W : World} {t : TypeId} {z n : Nat} {v : Value} {xs : List Value} (h : W.ownsRow B t z v n xs) (hn : 0 < n) : ∃ g cap, v = .slice (some ⟨g, 0, none⟩) n cap ∧ n ≤ cap ∧ cap ≤ maxLen := by
  rcases h.2 with ⟨_, h0⟩ | ⟨g, cap, cur, hv, _, _, h1, h2, _⟩
  · omega
  · exact ⟨g, cap, hv, h1, h2⟩
theorem chRow_at {W : World} {g : Nat} {l : List Chg} (h : ChRow W g 0 l) {k : Nat} {x : Chg} (e : l[k]? = some x) : W.rangeAt g (k * 6) (chCells x) := by
  have := h.2 k x e
  rw [Nat.zero_add] at this
  exact this
theorem links_snoc (s : Int) (c : Cl) (xs : List Cl) (a y : Cl) (h : endOf c xs = a) : (links s c (xs ++ [y])).flatMap chCells = (links s c xs).flatMap chCells ++ ([chCells ⟨2, s, a, y⟩] : List (List Value)).flatMap id := by
  rw [links_append, List.flatMap_append, h]
  simp [links]
/-- a page with another cell -/
def pgSet (p : Pg) (s : Nat) (x : Cl) : Pg := ⟨p.id, p.lsn, p.cells.set s x⟩
theorem pgSet_len {p : Pg} (s : Nat) (x : Cl) (h : p.cells.length = 16) : (pgSet p s x).cells.length = 16 := by show (p.cells.set s x).length = 16; rw [List.length_set]; exact h
theorem pgSet_self {p : Pg} {s : Nat} {c : Cl} (h : p.cells.getD s emptyCl = c) (hs : s < p.cells.length) : pgSet p s c = p := by
  unfold pgSet
  rw [← h, getD_eq hs, List.set_getElem_self]
theorem pgSet_good {p : Pg} (s : Nat) {x : Cl} (h : Good p) (hx : cellOkB x = true) : Good (pgSet p s x) := good_set h s (small_le (by have := cellOk_small hx; omega))
theorem apply_set {p : Pg} {s : Nat} {a b : Cl} (hp : p.id = 2) (hs : s < p.cells.length) (h : chOkB ⟨2, (s : Int), a, b⟩ = true) : applyR (pgSet p s a) ⟨2, (s : Int), a, b⟩ = (pgSet p s b, 0) := by
  have := apply_ok (p := pgSet p s a) s h rfl hp.symm (getD_set hs a)
  rw [this]
  unfold pgSet
  rw [List.set_set]
/-- what joined needs to know of a row -/
structure RowOk (s : Int) (c : Cl) (xs : List Cl) : Prop where
  s0 : 0 ≤ s
  s1 : s < 16
  first : cellOkB c = true
  rest : ∀ x ∈ xs, cellOkB x = true
theorem RowOk.endOf {s : Int} : ∀ {c : Cl} {xs : List Cl}, RowOk s c xs → cellOkB (endOf c xs) = true
  | _, [], h => h.first
  | _, x :: xs, h => RowOk.endOf (c := x) (xs := xs) ⟨h.s0, h.s1, h.rest x (List.mem_cons_self ..), fun y hy => h.rest y (List.mem_cons_of_mem _ hy)⟩
theorem RowOk.take {s : Int} {c : Cl} {xs : List Cl} (h : RowOk s c xs) (k : Nat) : RowOk s c (xs.take k) := ⟨h.s0, h.s1, h.first, fun x hx => h.rest x (List.mem_of_mem_take hx)⟩
theorem RowOk.drop {s : Int} {c : Cl} {xs : List Cl} (h : RowOk s c xs) (k : Nat) : RowOk s (Go.Proofs.Ytbadfcnkpeohfaa.endOf c (xs.take k)) (xs.drop k) := ⟨h.s0, h.s1, (h.take k).endOf, fun x hx => h.rest x (List.mem_of_mem_drop hx)⟩
theorem RowOk.change {s : Int} {c : Cl} {xs : List Cl} (h : RowOk s c xs) {x : Cl} (hx : cellOkB x = true) : chOkB ⟨2, s, c, x⟩ = true :=
  chOk_of (by show (0 : Int) ≤ 2; omega) (by show (2 : Int) < 64; omega) h.s0 h.s1 h.first hx
theorem join_links {s : Int} {c : Cl} {xs : List Cl} (h : RowOk s c xs) (k : Nat) (hk : k < xs.length) : joinR ⟨2, s, c, endOf c (xs.take k)⟩ ⟨2, s, endOf c (xs.take k), xs[k]⟩ = (⟨2, s, c, endOf c (xs.take (k + 1))⟩, 0) := by
  rw [endOf_take c xs k hk]
  exact join_ok (h.change (h.take k).endOf) ((h.drop k).change (h.rest _ (List.getElem_mem hk))) rfl rfl rfl
end Go.Proofs.Ytbadfcnkpeohfaa
