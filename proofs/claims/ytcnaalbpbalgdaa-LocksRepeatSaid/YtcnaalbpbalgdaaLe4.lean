/- texts of a claim, one after the other: the program's small functions on grants: comparing, the order, conflicts, validity, what finds grants (locks), the program's order of grants (locks), the program's order, conflicts, validity, and what finds grants (locks), the library's searches through grants, by whatever function that reads, and in the order of what is held; what the program makes of them (locks), the program's place, mode, holders, upgrade (locks), the program's size and validHeld (locks), a set of numbers in a map that the walk has made: which numbers it has, the program's validWaiting (locks), the program's Valid, Mode, Waiting (locks), what the program makes to find grants; what a transaction waits for; where a request goes (locks), the program's waiting and Waiting (locks), the program's Waiting and turn (locks), rows of whole elements that are written in place, the library's DeleteFunc over grants -/
import Derived.Test.YtcnaalbpbalgdaaLe3
import Derived.Shelf.Abstract
import Derived.Test.YtcnaalbpbalgdaaLe1
import Derived.Maps.Own
import Derived.Maps.OwnSet
import Derived.Deep.CutBlock
import Derived.Lib.SliceRun
/- the program's small functions on grants: comparing, the order, conflicts, validity, what finds grants (locks) -/
namespace Go.Proofs.Ytcnaalbpbalgdaa
open Go.RowKit
set_option maxRecDepth 20000
set_option linter.unusedSimpArgs false
set_option linter.unusedVariables false

theorem isNaN_any (x : Int) (W : World) : Calls Try.prog 74 #[.int .i64 x] W fun e w' => e = .returned (.bool false) ∧ w' = W := by
  have h : (x != x) = false := by simp
  go_enter Try.func74, Try.ntmps74
  go_wp2
  go_ret
  exact ⟨rfl, rfl⟩
def cmpI (x y : Int) : Int := if x < y then -1 else if y < x then 1 else 0
theorem cmpI_lt {x y : Int} (h : x < y) : cmpI x y = -1 := if_pos h
theorem cmpI_gt {x y : Int} (h : y < x) : cmpI x y = 1 := by unfold cmpI; rw [if_neg (by omega), if_pos h]
theorem cmpI_eq {x y : Int} (h : x = y) : cmpI x y = 0 := by unfold cmpI; rw [if_neg (by omega), if_neg (by omega)]
theorem cmpI_zero {x y : Int} : cmpI x y = 0 ↔ x = y := by unfold cmpI; split <;> (try split) <;> omega
theorem cmpI_neg {x y : Int} : cmpI x y < 0 ↔ x < y := by unfold cmpI; split <;> (try split) <;> omega
set_option maxHeartbeats 4000000 in
theorem compare_any (x y : Int) (W : World) : Calls Try.prog 70 #[.int .i64 x, .int .i64 y] W fun e w' => e = .returned (.int .i64 (cmpI x y)) ∧ w' = W := by
  have hn := fun x => isNaN_any x W
  rcases Int.lt_trichotomy x y with h | h | h
  · have d1 : decide (x < y) = true := decide_eq_true h
    have HV := Lib.hid (cmpI_lt h)
    go_enter Try.func70, Try.ntmps70
    go_wp2_with (go_at_call 74; refine (hn _).mono ?_; rintro e w2 ⟨rfl, rfl⟩)
    go_ret
    exact ⟨by rw [HV.out]; rfl, rfl⟩
  · have d1 : ¬ x < y := by omega
    have d2 : ¬ y < x := by omega
    have HV := Lib.hid (cmpI_eq h)
    clear h
    go_enter Try.func70, Try.ntmps70
    go_wp2_with (go_at_call 74; refine (hn _).mono ?_; rintro e w2 ⟨rfl, rfl⟩)
    go_ret
    exact ⟨by rw [HV.out]; rfl, rfl⟩
  · have d1 : ¬ x < y := by omega
    have HV := Lib.hid (cmpI_gt h)
    go_enter Try.func70, Try.ntmps70
    go_wp2_with (go_at_call 74; refine (hn _).mono ?_; rintro e w2 ⟨rfl, rfl⟩)
    go_ret
    exact ⟨by rw [HV.out]; rfl, rfl⟩
def orI (x y z : Int) : Int := if x = 0 then (if y = 0 then z else y) else x
set_option maxHeartbeats 4000000 in
theorem or3_any (x y z : Int) (b : Nat) (w : World) (h0 : w.cell? ⟨b, 0, none⟩ = some (.int .i64 x)) (h1 : w.cell? ⟨b, 1, none⟩ = some (.int .i64 y)) (h2 : w.cell? ⟨b, 2, none⟩ = some (.int .i64 z)) :
    Calls Try.prog 69 #[.slice (some ⟨b, 0, none⟩) 3 3] w fun e w' => e = .returned (.int .i64 (orI x y z)) ∧ w' = w := by
  have HC : Hid (∀ j : Nat, j < 3 → ∃ u, w.cell? ⟨b, j, none⟩ = some (.int .i64 u) ∧ (([x, y, z] : List Int)[j]? = some u)) := fun j hj => by
    match j with
    | 0 => exact ⟨x, h0, rfl⟩
    | 1 => exact ⟨y, h1, rfl⟩
    | 2 => exact ⟨z, h2, rfl⟩
    | j + 3 => omega
  have HO : Hid (∀ (j : Nat) (u : Int), ([x, y, z] : List Int)[j]? = some u → (∀ k v, k < j → ([x, y, z] : List Int)[k]? = some v → v = 0) → ¬ u = 0 → orI x y z = u) := fun j u hu hb hn => by
    match j with
    | 0 =>
      obtain rfl : x = u := by simpa using hu
      unfold orI; rw [if_neg hn]
    | 1 =>
      obtain rfl : y = u := by simpa using hu
      unfold orI; rw [if_pos (hb 0 x (by omega) rfl), if_neg hn]
    | 2 =>
      obtain rfl : z = u := by simpa using hu
      unfold orI; rw [if_pos (hb 0 x (by omega) rfl), if_pos (hb 1 y (by omega) rfl)]
    | j + 3 => simp at hu
  have HZ : Hid ((∀ k v, k < 3 → ([x, y, z] : List Int)[k]? = some v → v = 0) → orI x y z = 0) := fun hb => by
    unfold orI; rw [if_pos (hb 0 x (by omega) rfl), if_pos (hb 1 y (by omega) rfl)]; exact hb 2 z (by omega) rfl
  clear h0 h1 h2
  generalize orI x y z = o at *
  generalize ([x, y, z] : List Int) = l at *
  go_enter Try.func69, Try.ntmps69
  go_wp2_with fail
  go_loopw [8] (fun i wr => ∃ j : Nat, j ≤ 3 ∧ i = .int .i64 j ∧ (∀ k v, k < j → l[k]? = some v → v = 0) ∧ wr = w) (fun i _ => 3 - (intOf i).toNat)
  case atStart => exact ⟨0, by omega, rfl, fun k v h => absurd h (by omega), rfl⟩
  case round =>
    obtain ⟨j, hj, rfl, hb, rfl⟩ := hrel
    have HB := Lib.hid hb
    clear hb
    by_cases hlt : j < 3
    · obtain ⟨u, hu, hl⟩ := HC.out j hlt
      have HL := Lib.hid hl
      have HLt := Lib.hid hlt
      have hji : (j : Int) < 3 := by omega
      have hj0 : (0 : Int) ≤ (j : Int) := by omega
      clear hl
      by_cases h0 : u = 0
      · obtain ⟨e1, n1⟩ := eq_facts h0
        have HX := Lib.hid h0
        clear h0
        go_wp2_with fail
        go_roundw
        case rel => exact ⟨j + 1, HLt.out, by go_num, fun k v hk hv => by
          rcases Nat.lt_or_eq_of_le (Nat.lt_succ_iff.1 hk) with h | h
          · exact HB.out k v h hv
          · subst h
            have h1 := HL.out
            rw [hv] at h1
            rw [Option.some.inj h1]; exact HX.out, trivial⟩
        case measure => simp [intOf]; have := HLt.out; omega
      · obtain ⟨e1, n1⟩ := ne_facts h0
        have HV := Lib.hid (HO.out j u HL.out HB.out h0)
        clear h0
        go_wp2_with fail
        go_ret
        exact ⟨by rw [HV.out]; rfl, rfl⟩
    · obtain rfl : j = 3 := by omega
      have HV := Lib.hid (HZ.out HB.out)
      go_wp2_with fail
      go_ret
      exact ⟨by rw [HV.out]; rfl, rfl⟩
def ordI (a b : Gr) : Int := orI (cmpI a.page b.page) (cmpI a.slot b.slot) (cmpI a.tx b.tx)
theorem ordI_neg {a b : Gr} : ordI a b < 0 ↔ GLt a b := by
  have h1 := @cmpI_zero a.page b.page
  have h2 := @cmpI_zero a.slot b.slot
  have n1 := @cmpI_neg a.page b.page
  have n2 := @cmpI_neg a.slot b.slot
  have n3 := @cmpI_neg a.tx b.tx
  unfold ordI orI GLt
  split
  · split <;> omega
  · omega
theorem ordI_zero {a b : Gr} : ordI a b = 0 ↔ (a.tx = b.tx ∧ a.page = b.page ∧ a.slot = b.slot) := by
  have h1 := @cmpI_zero a.page b.page
  have h2 := @cmpI_zero a.slot b.slot
  have h3 := @cmpI_zero a.tx b.tx
  unfold ordI orI
  split
  · split <;> omega
  · omega
end Go.Proofs.Ytcnaalbpbalgdaa
/- the program's order of grants (locks) -/
namespace Go.Proofs.Ytcnaalbpbalgdaa
open Go.RowKit
set_option maxRecDepth 20000
set_option linter.unusedSimpArgs false
set_option linter.unusedVariables false

theorem compare_b (x y : Int) (W : World) : Calls Try.prog 70 #[.int .i64 x, .int .i64 y] W fun e w' => e = .returned (.int .i64 (cmpI x y)) ∧ Below W.heap.size W w' :=
  (compare_any x y W).mono fun e w' h => ⟨h.1, by rw [h.2]; exact Below.refl _ _⟩
theorem or3_b (x y z : Int) (b : Nat) (w : World) (h0 : w.cell? ⟨b, 0, none⟩ = some (.int .i64 x)) (h1 : w.cell? ⟨b, 1, none⟩ = some (.int .i64 y)) (h2 : w.cell? ⟨b, 2, none⟩ = some (.int .i64 z)) :
    Calls Try.prog 69 #[.slice (some ⟨b, 0, none⟩) 3 3] w fun e w' => e = .returned (.int .i64 (orI x y z)) ∧ Below w.heap.size w w' :=
  (or3_any x y z b w h0 h1 h2).mono fun e w' h => ⟨h.1, by rw [h.2]; exact Below.refl _ _⟩
set_option maxHeartbeats 4000000 in
theorem order_any (a b : Gr) (w : World) : Calls Try.prog 53 #[.agg (grCells a).toArray, .agg (grCells b).toArray] w fun e w' => e = .returned (.int .i64 (ordI a b)) ∧ Below w.heap.size w w' := by
  have h1 := ((Hp.start w).put 29 (grCells a)).put 29 (grCells b)
  simp only [World.size_alloc, List.nil_append, List.cons_append] at h1
  have HS0 : Hid (Hp w [.ob w.heap.size 29 (grCells a), .ob (w.heap.size + 1) 29 (grCells b)] ((w.alloc (.cells (grCells a).toArray 29)).alloc (.cells (grCells b).toArray 29))) := h1
  clear h1
  have HV : Hid (ordI a b = orI (cmpI a.page b.page) (cmpI a.slot b.slot) (cmpI a.tx b.tx)) := rfl
  have HUI : Hid (Try.prog.underlying 46 = some (.slice 3)) := Try.underlying46
  go_enter Try.func53, Try.ntmps53
  go_upto_region 1 with (fail)
  generalize ((w.alloc (.cells (grCells a).toArray 29)).alloc (.cells (grCells b).toArray 29)) = w1 at *
  generalize w.heap.size + 1 = k2 at *
  refine wp_region_held_drew (S := fun w' => w'.rangeAt w.heap.size 0 (grCells a) ∧ w'.rangeAt k2 0 (grCells b)) (by kernel_rfl) (⟨(fun j v hv => by rw [Nat.zero_add]; exact ((HS0.out).drew).at 0 rfl j hv), (fun j v hv => by rw [Nat.zero_add]; exact ((HS0.out).drew).at 1 rfl j hv)⟩) (fun hHeld => ?_)
  refine wpAnyH_take (i := 0) (oi := { dst := some 5, op := Op.fieldAddr 29 (Operand.tmp 2) 1, type := 0, pos := "locks.go:13", after := #[], guard := none }) (v := ?q1v) rfl (by kernel_rfl) (by kernel_rfl) (by kernel_rfl) (fun _ _ _ h => h) (Or.inl ⟨by rfl, ?q1h⟩) hHeld ?q1r
  case q1h => (intro wq hSw; clear hSw; go_simp; try with_reducible rfl)
  try simp only [Act.put, List.setIfInBounds_toArray, List.set_cons_zero, List.set_cons_succ]
  refine wpAnyH_take (i := 1) (oi := { dst := some 6, op := Op.fieldAddr 27 (Operand.tmp 5) 0, type := 0, pos := "locks.go:13", after := #[{ on := 0, ground := Ground.data }], guard := none }) (v := ?q2v) rfl (by kernel_rfl) (by kernel_rfl) (by kernel_rfl) (fun _ _ _ h => h) (Or.inl ⟨by rfl, ?q2h⟩) hHeld ?q2r
  case q2h => (intro wq hSw; clear hSw; go_simp; try with_reducible rfl)
  try simp only [Act.put, List.setIfInBounds_toArray, List.set_cons_zero, List.set_cons_succ]
  refine wpAnyH_take (i := 2) (oi := { dst := some 7, op := Op.load 3 (Operand.tmp 6), type := 3, pos := "locks.go:13", after := #[{ on := 1, ground := Ground.data }], guard := none }) (v := .int .i64 a.page) rfl (by kernel_rfl) (by kernel_rfl) (by kernel_rfl) (fun _ _ _ h => h) (Or.inl ⟨by rfl, ?q3h⟩) hHeld ?q3r
  case q3h => (intro wq hSw; have lq := (hSw.1) 1 (.int .i64 a.page) rfl; simp only [Nat.zero_add] at lq; clear hSw; go_simp; try with_reducible rfl)
  try simp only [Act.put, List.setIfInBounds_toArray, List.set_cons_zero, List.set_cons_succ]
  refine wpAnyH_take (i := 3) (oi := { dst := some 8, op := Op.fieldAddr 29 (Operand.tmp 3) 1, type := 0, pos := "locks.go:13", after := #[], guard := none }) (v := ?q4v) rfl (by kernel_rfl) (by kernel_rfl) (by kernel_rfl) (fun _ _ _ h => h) (Or.inl ⟨by rfl, ?q4h⟩) hHeld ?q4r
  case q4h => (intro wq hSw; clear hSw; go_simp; try with_reducible rfl)
  try simp only [Act.put, List.setIfInBounds_toArray, List.set_cons_zero, List.set_cons_succ]
  refine wpAnyH_take (i := 4) (oi := { dst := some 9, op := Op.fieldAddr 27 (Operand.tmp 8) 0, type := 0, pos := "locks.go:13", after := #[{ on := 3, ground := Ground.data }], guard := none }) (v := ?q5v) rfl (by kernel_rfl) (by kernel_rfl) (by kernel_rfl) (fun _ _ _ h => h) (Or.inl ⟨by rfl, ?q5h⟩) hHeld ?q5r
  case q5h => (intro wq hSw; clear hSw; go_simp; try with_reducible rfl)
  try simp only [Act.put, List.setIfInBounds_toArray, List.set_cons_zero, List.set_cons_succ]
  refine wpAnyH_take (i := 5) (oi := { dst := some 10, op := Op.load 3 (Operand.tmp 9), type := 3, pos := "locks.go:13", after := #[{ on := 4, ground := Ground.data }], guard := none }) (v := .int .i64 b.page) rfl (by kernel_rfl) (by kernel_rfl) (by kernel_rfl) (fun _ _ _ h => h) (Or.inl ⟨by rfl, ?q6h⟩) hHeld ?q6r
  case q6h => (intro wq hSw; have lq := (hSw.2) 1 (.int .i64 b.page) rfl; simp only [Nat.zero_add] at lq; clear hSw; go_simp; try with_reducible rfl)
  try simp only [Act.put, List.setIfInBounds_toArray, List.set_cons_zero, List.set_cons_succ]
  refine wpAnyH_take (i := 7) (oi := { dst := some 12, op := Op.fieldAddr 29 (Operand.tmp 2) 1, type := 0, pos := "locks.go:13", after := #[], guard := none }) (v := ?q7v) rfl (by kernel_rfl) (by kernel_rfl) (by kernel_rfl) (fun _ _ _ h => h) (Or.inl ⟨by rfl, ?q7h⟩) hHeld ?q7r
  case q7h => (intro wq hSw; clear hSw; go_simp; try with_reducible rfl)
  try simp only [Act.put, List.setIfInBounds_toArray, List.set_cons_zero, List.set_cons_succ]
  refine wpAnyH_take (i := 8) (oi := { dst := some 13, op := Op.fieldAddr 27 (Operand.tmp 12) 1, type := 0, pos := "locks.go:13", after := #[{ on := 7, ground := Ground.data }], guard := none }) (v := ?q8v) rfl (by kernel_rfl) (by kernel_rfl) (by kernel_rfl) (fun _ _ _ h => h) (Or.inl ⟨by rfl, ?q8h⟩) hHeld ?q8r
  case q8h => (intro wq hSw; clear hSw; go_simp; try with_reducible rfl)
  try simp only [Act.put, List.setIfInBounds_toArray, List.set_cons_zero, List.set_cons_succ]
  refine wpAnyH_take (i := 9) (oi := { dst := some 14, op := Op.load 3 (Operand.tmp 13), type := 3, pos := "locks.go:13", after := #[{ on := 8, ground := Ground.data }], guard := none }) (v := .int .i64 a.slot) rfl (by kernel_rfl) (by kernel_rfl) (by kernel_rfl) (fun _ _ _ h => h) (Or.inl ⟨by rfl, ?q9h⟩) hHeld ?q9r
  case q9h => (intro wq hSw; have lq := (hSw.1) 2 (.int .i64 a.slot) rfl; simp only [Nat.zero_add] at lq; clear hSw; go_simp; try with_reducible rfl)
  try simp only [Act.put, List.setIfInBounds_toArray, List.set_cons_zero, List.set_cons_succ]
  refine wpAnyH_take (i := 10) (oi := { dst := some 15, op := Op.fieldAddr 29 (Operand.tmp 3) 1, type := 0, pos := "locks.go:13", after := #[], guard := none }) (v := ?q10v) rfl (by kernel_rfl) (by kernel_rfl) (by kernel_rfl) (fun _ _ _ h => h) (Or.inl ⟨by rfl, ?q10h⟩) hHeld ?q10r
  case q10h => (intro wq hSw; clear hSw; go_simp; try with_reducible rfl)
  try simp only [Act.put, List.setIfInBounds_toArray, List.set_cons_zero, List.set_cons_succ]
  refine wpAnyH_take (i := 11) (oi := { dst := some 16, op := Op.fieldAddr 27 (Operand.tmp 15) 1, type := 0, pos := "locks.go:13", after := #[{ on := 10, ground := Ground.data }], guard := none }) (v := ?q11v) rfl (by kernel_rfl) (by kernel_rfl) (by kernel_rfl) (fun _ _ _ h => h) (Or.inl ⟨by rfl, ?q11h⟩) hHeld ?q11r
  case q11h => (intro wq hSw; clear hSw; go_simp; try with_reducible rfl)
  try simp only [Act.put, List.setIfInBounds_toArray, List.set_cons_zero, List.set_cons_succ]
  refine wpAnyH_take (i := 12) (oi := { dst := some 17, op := Op.load 3 (Operand.tmp 16), type := 3, pos := "locks.go:13", after := #[{ on := 11, ground := Ground.data }], guard := none }) (v := .int .i64 b.slot) rfl (by kernel_rfl) (by kernel_rfl) (by kernel_rfl) (fun _ _ _ h => h) (Or.inl ⟨by rfl, ?q12h⟩) hHeld ?q12r
  case q12h => (intro wq hSw; have lq := (hSw.2) 2 (.int .i64 b.slot) rfl; simp only [Nat.zero_add] at lq; clear hSw; go_simp; try with_reducible rfl)
  try simp only [Act.put, List.setIfInBounds_toArray, List.set_cons_zero, List.set_cons_succ]
  refine wpAnyH_take (i := 14) (oi := { dst := some 19, op := Op.fieldAddr 29 (Operand.tmp 2) 0, type := 0, pos := "locks.go:13", after := #[], guard := none }) (v := ?q13v) rfl (by kernel_rfl) (by kernel_rfl) (by kernel_rfl) (fun _ _ _ h => h) (Or.inl ⟨by rfl, ?q13h⟩) hHeld ?q13r
  case q13h => (intro wq hSw; clear hSw; go_simp; try with_reducible rfl)
  try simp only [Act.put, List.setIfInBounds_toArray, List.set_cons_zero, List.set_cons_succ]
  refine wpAnyH_take (i := 15) (oi := { dst := some 20, op := Op.load 3 (Operand.tmp 19), type := 3, pos := "locks.go:13", after := #[{ on := 14, ground := Ground.data }], guard := none }) (v := .int .i64 a.tx) rfl (by kernel_rfl) (by kernel_rfl) (by kernel_rfl) (fun _ _ _ h => h) (Or.inl ⟨by rfl, ?q14h⟩) hHeld ?q14r
  case q14h => (intro wq hSw; have lq := (hSw.1) 0 (.int .i64 a.tx) rfl; simp only [Nat.zero_add] at lq; clear hSw; go_simp; try with_reducible rfl)
  try simp only [Act.put, List.setIfInBounds_toArray, List.set_cons_zero, List.set_cons_succ]
  refine wpAnyH_take (i := 16) (oi := { dst := some 21, op := Op.fieldAddr 29 (Operand.tmp 3) 0, type := 0, pos := "locks.go:13", after := #[], guard := none }) (v := ?q15v) rfl (by kernel_rfl) (by kernel_rfl) (by kernel_rfl) (fun _ _ _ h => h) (Or.inl ⟨by rfl, ?q15h⟩) hHeld ?q15r
  case q15h => (intro wq hSw; clear hSw; go_simp; try with_reducible rfl)
  try simp only [Act.put, List.setIfInBounds_toArray, List.set_cons_zero, List.set_cons_succ]
  refine wpAnyH_take (i := 17) (oi := { dst := some 22, op := Op.load 3 (Operand.tmp 21), type := 3, pos := "locks.go:13", after := #[{ on := 16, ground := Ground.data }], guard := none }) (v := .int .i64 b.tx) rfl (by kernel_rfl) (by kernel_rfl) (by kernel_rfl) (fun _ _ _ h => h) (Or.inl ⟨by rfl, ?q16h⟩) hHeld ?q16r
  case q16h => (intro wq hSw; have lq := (hSw.2) 0 (.int .i64 b.tx) rfl; simp only [Nat.zero_add] at lq; clear hSw; go_simp; try with_reducible rfl)
  try simp only [Act.put, List.setIfInBounds_toArray, List.set_cons_zero, List.set_cons_succ]
  refine wpAnyH_ready (rs := [6]) (by kernel_rfl) (by simp) ?_
  refine AllReadyH.cons (o := { dst := some 11, op := Op.call { callee := Callee.value (Operand.func 70), args := #[Operand.tmp 7, Operand.tmp 10], argTypes := #[3, 3] }, type := 3, pos := "locks.go:13", after := #[{ on := 2, ground := Ground.data }, { on := 5, ground := Ground.data }], guard := none }) rfl (fun K hK => ?_) (AllReadyH.nil)
  go_simp
  go_wp2_with (go_at_call 70; refine (compare_b _ _ _).mono ?_; rintro e w2 ⟨rfl, hb⟩)
  have HS1 : Hid (Hp w [.ob (w.heap.size) 29 (grCells a), .ob k2 29 (grCells b)] w2) := ((HS0.out).drew).calls hb
  refine hK.out _ _ (⟨(fun j v hv => by rw [Nat.zero_add]; exact (HS1.out).at 0 rfl j hv), (fun j v hv => by rw [Nat.zero_add]; exact (HS1.out).at 1 rfl j hv)⟩) (fun hHeld => ?_)
  clear hK K hb
  try simp only [Act.put, List.setIfInBounds_toArray, List.set_cons_zero, List.set_cons_succ]
  refine wpAnyH_ready (rs := [13]) (by kernel_rfl) (by simp) ?_
  refine AllReadyH.cons (o := { dst := some 18, op := Op.call { callee := Callee.value (Operand.func 70), args := #[Operand.tmp 14, Operand.tmp 17], argTypes := #[3, 3] }, type := 3, pos := "locks.go:13", after := #[{ on := 9, ground := Ground.data }, { on := 12, ground := Ground.data }, { on := 6, ground := Ground.chain }], guard := none }) rfl (fun K hK => ?_) (AllReadyH.nil)
  go_simp
  go_wp2_with (go_at_call 70; refine (compare_b _ _ _).mono ?_; rintro e w3 ⟨rfl, hb⟩)
  have HS2 : Hid (Hp w [.ob (w.heap.size) 29 (grCells a), .ob k2 29 (grCells b)] w3) := (HS1.out).calls hb
  refine hK.out _ _ (⟨(fun j v hv => by rw [Nat.zero_add]; exact (HS2.out).at 0 rfl j hv), (fun j v hv => by rw [Nat.zero_add]; exact (HS2.out).at 1 rfl j hv)⟩) (fun hHeld => ?_)
  clear hK K hb
  try simp only [Act.put, List.setIfInBounds_toArray, List.set_cons_zero, List.set_cons_succ]
  refine wpAnyH_ready (rs := [18]) (by kernel_rfl) (by simp) ?_
  refine AllReadyH.cons (o := { dst := some 23, op := Op.call { callee := Callee.value (Operand.func 70), args := #[Operand.tmp 20, Operand.tmp 22], argTypes := #[3, 3] }, type := 3, pos := "locks.go:13", after := #[{ on := 15, ground := Ground.data }, { on := 17, ground := Ground.data }, { on := 13, ground := Ground.chain }], guard := none }) rfl (fun K hK => ?_) (AllReadyH.nil)
  go_simp
  go_wp2_with (go_at_call 70; refine (compare_b _ _ _).mono ?_; rintro e w4 ⟨rfl, hb⟩)
  have HS3 : Hid (Hp w [.ob (w.heap.size) 29 (grCells a), .ob k2 29 (grCells b)] w4) := (HS2.out).calls hb
  refine hK.out _ _ (⟨(fun j v hv => by rw [Nat.zero_add]; exact (HS3.out).at 0 rfl j hv), (fun j v hv => by rw [Nat.zero_add]; exact (HS3.out).at 1 rfl j hv)⟩) (fun hHeld => ?_)
  clear hK K hb
  try simp only [Act.put, List.setIfInBounds_toArray, List.set_cons_zero, List.set_cons_succ]
  refine wpAnyH_ready (rs := [19]) (by kernel_rfl) (by simp) ?_
  refine AllReadyH.cons (o := { dst := some 24, op := Op.buildSlice 46 3 #[(0, Operand.tmp 11), (1, Operand.tmp 18), (2, Operand.tmp 23)], type := 46, pos := "locks.go:13", after := #[{ on := 6, ground := Ground.data }, { on := 13, ground := Ground.data }, { on := 18, ground := Ground.data }], guard := none }) rfl (fun K hK => ?_) (AllReadyH.nil)
  rw [if_pos (by rfl)]
  refine wp_build_vals rfl elem_i HUI.out [.int .i64 (cmpI a.page b.page), .int .i64 (cmpI a.slot b.slot), .int .i64 (cmpI a.tx b.tx)] (by intro v hv; simp only [List.mem_cons, List.not_mem_nil, or_false] at hv; rcases hv with rfl | rfl | rfl <;> rfl) (Nat.succ_pos _) (by simp only [List.length_cons, List.length_nil]; omega) rfl (by simp only [List.map_toArray, List.map_cons, List.map_nil, List.zipIdx_cons, List.zipIdx_nil]; exact rfl) ?_
  have HS4 : Hid (Hp w [.ob (w.heap.size) 29 (grCells a), .ob k2 29 (grCells b), .ob (w4.heap.size) 3 ([.int .i64 (cmpI a.page b.page), .int .i64 (cmpI a.slot b.slot), .int .i64 (cmpI a.tx b.tx)])] (w4.alloc (.cells ([.int .i64 (cmpI a.page b.page), .int .i64 (cmpI a.slot b.slot), .int .i64 (cmpI a.tx b.tx)]).toArray 3))) := (HS3.out).put 3 ([.int .i64 (cmpI a.page b.page), .int .i64 (cmpI a.slot b.slot), .int .i64 (cmpI a.tx b.tx)])
  refine hK.out _ _ (⟨(fun j v hv => by rw [Nat.zero_add]; exact (HS4.out).at 0 rfl j hv), (fun j v hv => by rw [Nat.zero_add]; exact (HS4.out).at 1 rfl j hv)⟩) (fun hHeld => ?_)
  clear hK K
  generalize (w4.alloc (.cells ([.int .i64 (cmpI a.page b.page), .int .i64 (cmpI a.slot b.slot), .int .i64 (cmpI a.tx b.tx)]).toArray 3)) = w5 at *
  generalize w4.heap.size = B1 at *
  try simp only [Act.put, List.setIfInBounds_toArray, List.set_cons_zero, List.set_cons_succ]
  refine wpAnyH_ready (rs := [20]) (by kernel_rfl) (by simp) ?_
  refine AllReadyH.cons (o := { dst := some 25, op := Op.call { callee := Callee.value (Operand.func 69), args := #[Operand.tmp 24], argTypes := #[46] }, type := 3, pos := "locks.go:13", after := #[{ on := 19, ground := Ground.data }, { on := 18, ground := Ground.chain }], guard := none }) rfl (fun K hK => ?_) (AllReadyH.nil)
  go_simp
  go_wp2_with (go_at_call 69; refine (or3_b _ _ _ B1 _ ((HS4.out).at 2 rfl 0 rfl) ((HS4.out).at 2 rfl 1 rfl) ((HS4.out).at 2 rfl 2 rfl)).mono ?_; rintro e w6 ⟨rfl, hb⟩)
  have HS5 : Hid (Hp w [.ob (w.heap.size) 29 (grCells a), .ob k2 29 (grCells b), .ob B1 3 ([.int .i64 (cmpI a.page b.page), .int .i64 (cmpI a.slot b.slot), .int .i64 (cmpI a.tx b.tx)])] w6) := (HS4.out).calls hb
  refine hK.out _ _ (⟨(fun j v hv => by rw [Nat.zero_add]; exact (HS5.out).at 0 rfl j hv), (fun j v hv => by rw [Nat.zero_add]; exact (HS5.out).at 1 rfl j hv)⟩) (fun hHeld => ?_)
  clear hK K hb
  try simp only [Act.put, List.setIfInBounds_toArray, List.set_cons_zero, List.set_cons_succ]
  refine wpAnyH_take (i := 21) (oi := { dst := some 4, op := Op.assign (Operand.tmp 25), type := 3, pos := "locks.go:13", after := #[{ on := 20, ground := Ground.data }, { on := 20, ground := Ground.chain }, { on := 0, ground := Ground.phase }, { on := 1, ground := Ground.phase }, { on := 2, ground := Ground.phase }, { on := 3, ground := Ground.phase }, { on := 4, ground := Ground.phase }, { on := 5, ground := Ground.phase }, { on := 6, ground := Ground.phase }, { on := 7, ground := Ground.phase }, { on := 8, ground := Ground.phase }, { on := 9, ground := Ground.phase }, { on := 10, ground := Ground.phase }, { on := 11, ground := Ground.phase }, { on := 12, ground := Ground.phase }, { on := 13, ground := Ground.phase }, { on := 14, ground := Ground.phase }, { on := 15, ground := Ground.phase }, { on := 16, ground := Ground.phase }, { on := 17, ground := Ground.phase }, { on := 18, ground := Ground.phase }, { on := 19, ground := Ground.phase }, { on := 20, ground := Ground.phase }], guard := none }) (v := ?q17v) rfl (by kernel_rfl) (by kernel_rfl) (by kernel_rfl) (fun _ _ _ h => h) (Or.inl ⟨by rfl, ?q17h⟩) hHeld ?q17r
  case q17h => (intro wq hSw; clear hSw; go_simp; try with_reducible rfl)
  try simp only [Act.put, List.setIfInBounds_toArray, List.set_cons_zero, List.set_cons_succ]
  refine wpAnyH_done (by kernel_rfl) ?_ _
  clear hHeld
  go_wp2_with fail
  go_ret
  exact ⟨by rw [HV.out]; rfl, (HS5.out).old⟩
end Go.Proofs.Ytcnaalbpbalgdaa
/- the program's order, conflicts, validity, and what finds grants (locks) -/
namespace Go.Proofs.Ytcnaalbpbalgdaa
open Go.RowKit
set_option maxRecDepth 20000
set_option linter.unusedSimpArgs false
set_option linter.unusedVariables false

set_option maxHeartbeats 4000000 in
theorem pconflict_any (a b : Gr) (w : World) (ha : GoodGr a) (hb : GoodGr b) : Calls Try.prog 54 #[.agg (grCells a).toArray, .agg (grCells b).toArray] w fun e w' => e = .returned (.bool (confB a b)) ∧ Below w.heap.size w w' := by
  have HB : Hid (∀ cs ds, Below w.heap.size w ((w.alloc (.cells cs 29)).alloc (.cells ds 29))) := fun cs ds => ((Below.refl _ _).alloc (Nat.le_refl _) _).alloc (by simp) _
  have hq : ∀ W, Sem.run Try.prog (binOp .eql 27 (.agg #[.int .i64 a.page, .int .i64 a.slot]) (.agg #[.int .i64 b.page, .int .i64 b.slot])) W = .ok (.bool (sameV a.lock b.lock)) W := fun W => run_eql (equal_lk a.lock b.lock ha.lock hb.lock) W
  have hs : sameV a.lock b.lock = (decide (a.page = b.page) && decide (a.slot = b.slot)) := by
    rw [Bool.eq_iff_iff, sameV_iff, Bool.and_eq_true, decide_eq_true_eq, decide_eq_true_eq]
    exact ⟨fun h => ⟨congrArg Lok.page h, congrArg Lok.slot h⟩, fun h => by show Lok.mk _ _ = Lok.mk _ _; rw [h.1, h.2]⟩
  clear ha hb
  unfold grCells
  generalize sameV a.lock b.lock = q at *
  by_cases h1 : a.tx = b.tx
  · obtain ⟨e1, n1⟩ := eq_facts h1
    have HV : Hid (confB a b = false) := Lib.hid (by unfold confB; simp [h1])
    clear h1 hs
    go_enter Try.func54, Try.ntmps54
    go_wp2
    go_ret
    exact ⟨ret_bool (by rw [HV.out]), HB.out _ _⟩
  · obtain ⟨e1, n1⟩ := ne_facts h1
    cases q
    · have HV : Hid (confB a b = false) := Lib.hid (by unfold confB; have := hs.symm; simp only [Bool.and_eq_false_iff, decide_eq_false_iff_not] at this; rcases this with h | h <;> simp [h])
      clear h1 hs
      go_enter Try.func54, Try.ntmps54
      go_wp2
      go_ret
      exact ⟨ret_bool (by rw [HV.out]), HB.out _ _⟩
    · have hs2 := hs.symm
      simp only [Bool.and_eq_true, decide_eq_true_eq] at hs2
      by_cases h2 : a.mode = 2
      · obtain ⟨e2, n2⟩ := eq_facts h2
        have HV : Hid (confB a b = true) := Lib.hid (by unfold confB; simp [h1, hs2.1, hs2.2, h2])
        clear h1 hs hs2 h2
        go_enter Try.func54, Try.ntmps54
        go_wp2
        go_ret
        exact ⟨ret_bool (by rw [HV.out]), HB.out _ _⟩
      · obtain ⟨e2, n2⟩ := ne_facts h2
        have HV : Hid (confB a b = (b.mode == 2)) := Lib.hid (by unfold confB; simp [h1, hs2.1, hs2.2, h2, beq_dec'])
        clear h1 hs hs2 h2
        go_enter Try.func54, Try.ntmps54
        go_wp2
        go_ret
        exact ⟨ret_bool (by rw [HV.out]), HB.out _ _⟩
set_option maxHeartbeats 8000000 in
theorem pgrant_any (g : Gr) (w : World) : Calls Try.prog 40 #[.agg (grCells g).toArray] w fun e w' => e = .returned (.bool (grOkB g)) ∧ Below w.heap.size w w' := by
  have HB : Hid (∀ cs, Below w.heap.size w (w.alloc (.cells cs 29))) := fun cs => (Below.refl _ _).alloc (Nat.le_refl _) _
  have HV : Hid (grOkB g = (decide (1 ≤ g.tx) && (decide (g.tx ≤ 1073741824) && (decide (0 ≤ g.page) && (decide (g.page < 64) && (decide (0 ≤ g.slot) && (decide (g.slot < 16) && (decide (g.mode = 1) || decide (g.mode = 2))))))))) := rfl
  have m1 := beq_dec' g.mode 1
  have m2 := beq_dec' g.mode 2
  unfold grCells
  obtain ⟨p0, hp0⟩ : ∃ p, decide (1 ≤ g.tx) = p := ⟨_, rfl⟩
  obtain ⟨p1, hp1⟩ : ∃ p, decide (g.tx ≤ 1073741824) = p := ⟨_, rfl⟩
  obtain ⟨p2, hp2⟩ : ∃ p, decide (0 ≤ g.page) = p := ⟨_, rfl⟩
  obtain ⟨p3, hp3⟩ : ∃ p, decide (g.page < 64) = p := ⟨_, rfl⟩
  obtain ⟨p4, hp4⟩ : ∃ p, decide (0 ≤ g.slot) = p := ⟨_, rfl⟩
  obtain ⟨p5, hp5⟩ : ∃ p, decide (g.slot < 16) = p := ⟨_, rfl⟩
  obtain ⟨p6, hp6⟩ : ∃ p, decide (g.mode = 1) = p := ⟨_, rfl⟩
  obtain ⟨p7, hp7⟩ : ∃ p, decide (g.mode = 2) = p := ⟨_, rfl⟩
  simp only [hp0, hp1, hp2, hp3, hp4, hp5, hp6, hp7] at HV m1 m2
  cases p0
  · go_enter Try.func40, Try.ntmps40
    go_wp2
    go_ret
    exact ⟨ret_bool (by rw [HV.out]; first | rfl | simp), HB.out _⟩
  · skip
    cases p1
    · go_enter Try.func40, Try.ntmps40
      go_wp2
      go_ret
      exact ⟨ret_bool (by rw [HV.out]; first | rfl | simp), HB.out _⟩
    · skip
      cases p2
      · go_enter Try.func40, Try.ntmps40
        go_wp2
        go_ret
        exact ⟨ret_bool (by rw [HV.out]; first | rfl | simp), HB.out _⟩
      · skip
        cases p3
        · go_enter Try.func40, Try.ntmps40
          go_wp2
          go_ret
          exact ⟨ret_bool (by rw [HV.out]; first | rfl | simp), HB.out _⟩
        · skip
          cases p4
          · go_enter Try.func40, Try.ntmps40
            go_wp2
            go_ret
            exact ⟨ret_bool (by rw [HV.out]; first | rfl | simp), HB.out _⟩
          · skip
            cases p5
            · go_enter Try.func40, Try.ntmps40
              go_wp2
              go_ret
              exact ⟨ret_bool (by rw [HV.out]; first | rfl | simp), HB.out _⟩
            · skip
              cases p6
              · go_enter Try.func40, Try.ntmps40
                go_wp2
                go_ret
                exact ⟨ret_bool (by rw [HV.out]; first | rfl | simp), HB.out _⟩
              · go_enter Try.func40, Try.ntmps40
                go_wp2
                go_ret
                exact ⟨ret_bool (by rw [HV.out]; first | rfl | simp), HB.out _⟩
def GrFn (g : Nat) (lb : Array Value) (p : Gr → Bool) (l : List Gr) (w : World) : Prop :=
  ∀ W x, x ∈ l → Below w.heap.size w W → Calls Try.prog g (#[.agg (grCells x).toArray] ++ lb) W fun e w' => e = .returned (.bool (p x)) ∧ Below W.heap.size W w'
def GrAt (g : Nat) (lb : Array Value) (p : Gr → Bool) (l : List Gr) (R : List Rng) : Prop :=
  ∀ W x, x ∈ l → RdIn W R → Calls Try.prog g (#[.agg (grCells x).toArray] ++ lb) W fun e w' => e = .returned (.bool (p x)) ∧ Below W.heap.size W w'
theorem GrAt.fn {g : Nat} {lb : Array Value} {p : Gr → Bool} {l : List Gr} {R : List Rng} {w : World} (h : GrAt g lb p l R) (hR : RdIn w R) : GrFn g lb p l w := fun W x hx hb => h W x hx (hR.below hb)
def EntersF (g : Nat) : Prop := ∀ args w, (callFunc g args).run Try.prog w = .ok (.enter g args) w
theorem eg_of : EntersF 68 := enters_of Try.func68 (by kernel_rfl) rfl
theorem eg_against : EntersF 73 := enters_of Try.func73 (by kernel_rfl) rfl
theorem eg_drop : EntersF 49 := enters_of Try.func49 (by kernel_rfl) rfl
set_option maxHeartbeats 4000000 in
theorem of_at (tx : Int) (b : Nat) (l : List Gr) : GrAt 68 #[.pointer (some ⟨b, 0, none⟩)] (fun x => decide (x.tx = tx)) l [(b, 0, [.int .i64 tx])] := by
  intro W x hx hR
  have hb := hR _ (List.mem_singleton.2 rfl)
  have c0 : W.cell? ⟨b, 0, none⟩ = some (.int .i64 tx) := hb.2 0 _ rfl
  have HV : Hid ((x.tx == tx) = decide (x.tx = tx)) := beq_dec' _ _
  have HLtb : Hid (b < W.heap.size) := (by have := hb.1; exact this)
  have h1 := (Hp.start W).put 29 (grCells x)
  have HS0 : Hid (Hp W [.ob W.heap.size 29 (grCells x)] (W.alloc (.cells #[.int .i64 x.tx, .int .i64 x.page, .int .i64 x.slot, .int .i64 x.mode] 29))) := h1
  clear h1
  clear hR hb
  show Calls Try.prog 68 #[.agg #[.int .i64 x.tx, .int .i64 x.page, .int .i64 x.slot, .int .i64 x.mode], .pointer (some ⟨b, 0, none⟩)] W _
  go_enter Try.func68, Try.ntmps68
  go_upto_region 1 with (fail)
  generalize (W.alloc (.cells #[.int .i64 x.tx, .int .i64 x.page, .int .i64 x.slot, .int .i64 x.mode] 29)) = w1 at *
  have x0 : w1.cell? ⟨W.heap.size, 0, none⟩ = some (.int .i64 x.tx) := HS0.out.at 0 rfl 0 rfl
  have x1 : w1.cell? ⟨W.heap.size, 1, none⟩ = some (.int .i64 x.page) := HS0.out.at 0 rfl 1 rfl
  have x2 : w1.cell? ⟨W.heap.size, 2, none⟩ = some (.int .i64 x.slot) := HS0.out.at 0 rfl 2 rfl
  have x3 : w1.cell? ⟨W.heap.size, 3, none⟩ = some (.int .i64 x.mode) := HS0.out.at 0 rfl 3 rfl
  have dc0 := (HS0.out.old.cell (p := ⟨b, 0, none⟩) HLtb.out).trans c0
  have HB := Lib.hid HS0.out.old
  clear HS0 c0
  go_wp2
  go_ret
  exact ⟨ret_bool HV.out, HB.out⟩
set_option maxHeartbeats 4000000 in
theorem against_at (g : Gr) (hg : GoodGr g) (b : Nat) (l : List Gr) (hl : ∀ x ∈ l, GoodGr x) : GrAt 73 #[.pointer (some ⟨b, 0, none⟩)] (fun x => confB g x) l [(b, 0, grCells g)] := by
  intro W x hx hR
  have hb := hR _ (List.mem_singleton.2 rfl)
  have c0 : W.cell? ⟨b, 0, none⟩ = some (.int .i64 g.tx) := hb.2 0 _ rfl
  have c1 : W.cell? ⟨b, 1, none⟩ = some (.int .i64 g.page) := hb.2 1 _ rfl
  have c2 : W.cell? ⟨b, 2, none⟩ = some (.int .i64 g.slot) := hb.2 2 _ rfl
  have c3 : W.cell? ⟨b, 3, none⟩ = some (.int .i64 g.mode) := hb.2 3 _ rfl
  have hc : ∀ V, Calls Try.prog 54 #[.agg #[.int .i64 g.tx, .int .i64 g.page, .int .i64 g.slot, .int .i64 g.mode], .agg #[.int .i64 x.tx, .int .i64 x.page, .int .i64 x.slot, .int .i64 x.mode]] V fun e w' => e = .returned (.bool (confB g x)) ∧ Below V.heap.size V w' := fun V => pconflict_any g x V hg (hl x hx)
  have HLtb : Hid (b < W.heap.size) := (by have := hb.1; exact this)
  have h1 := (Hp.start W).put 29 (grCells x)
  have HS0 : Hid (Hp W [.ob W.heap.size 29 (grCells x)] (W.alloc (.cells #[.int .i64 x.tx, .int .i64 x.page, .int .i64 x.slot, .int .i64 x.mode] 29))) := h1
  clear h1
  clear hR hb hg hl
  show Calls Try.prog 73 #[.agg #[.int .i64 x.tx, .int .i64 x.page, .int .i64 x.slot, .int .i64 x.mode], .pointer (some ⟨b, 0, none⟩)] W _
  go_enter Try.func73, Try.ntmps73
  go_upto_region 1 with (fail)
  generalize (W.alloc (.cells #[.int .i64 x.tx, .int .i64 x.page, .int .i64 x.slot, .int .i64 x.mode] 29)) = w1 at *
  have x0 : w1.cell? ⟨W.heap.size, 0, none⟩ = some (.int .i64 x.tx) := HS0.out.at 0 rfl 0 rfl
  have x1 : w1.cell? ⟨W.heap.size, 1, none⟩ = some (.int .i64 x.page) := HS0.out.at 0 rfl 1 rfl
  have x2 : w1.cell? ⟨W.heap.size, 2, none⟩ = some (.int .i64 x.slot) := HS0.out.at 0 rfl 2 rfl
  have x3 : w1.cell? ⟨W.heap.size, 3, none⟩ = some (.int .i64 x.mode) := HS0.out.at 0 rfl 3 rfl
  have dc0 := (HS0.out.old.cell (p := ⟨b, 0, none⟩) HLtb.out).trans c0
  have dc1 := (HS0.out.old.cell (p := ⟨b, 1, none⟩) HLtb.out).trans c1
  have dc2 := (HS0.out.old.cell (p := ⟨b, 2, none⟩) HLtb.out).trans c2
  have dc3 := (HS0.out.old.cell (p := ⟨b, 3, none⟩) HLtb.out).trans c3
  have HB := Lib.hid HS0.out.old
  clear HS0 c0 c1 c2 c3
  go_wp2_with (go_at_call 54; refine (hc _).mono ?_; rintro e w2 ⟨rfl, hb⟩)
  go_ret
  exact ⟨rfl, HB.out.trans (hb.mono HB.out.size)⟩
set_option maxHeartbeats 4000000 in
theorem drop_at (tx : Int) (k : Lok) (hk : GoodLk k) (b c : Nat) (l : List Gr) (hl : ∀ x ∈ l, GoodGr x) : GrAt 49 #[.pointer (some ⟨b, 0, none⟩), .pointer (some ⟨c, 0, none⟩)] (fun x => keyB x tx k.page k.slot) l [(b, 0, [.int .i64 tx]), (c, 0, lkCells k)] := by
  intro W x hx hR
  have hb := hR (b, 0, [.int .i64 tx]) (by simp)
  have hc := hR (c, 0, lkCells k) (by simp)
  have c0 : W.cell? ⟨b, 0, none⟩ = some (.int .i64 tx) := hb.2 0 _ rfl
  have k0 : W.cell? ⟨c, 0, none⟩ = some (.int .i64 k.page) := hc.2 0 _ rfl
  have k1 : W.cell? ⟨c, 1, none⟩ = some (.int .i64 k.slot) := hc.2 1 _ rfl
  have hq : ∀ W, Sem.run Try.prog (binOp .eql 27 (.agg #[.int .i64 x.page, .int .i64 x.slot]) (.agg #[.int .i64 k.page, .int .i64 k.slot])) W = .ok (.bool (sameV x.lock k)) W := fun W => run_eql (equal_lk x.lock k (hl x hx).lock hk) W
  have hs := lock_same x k
  have HLtb : Hid (b < W.heap.size) := (by have := hb.1; exact this)
  have HLtc : Hid (c < W.heap.size) := (by have := hc.1; exact this)
  have h1 := (Hp.start W).put 29 (grCells x)
  have HS0 : Hid (Hp W [.ob W.heap.size 29 (grCells x)] (W.alloc (.cells #[.int .i64 x.tx, .int .i64 x.page, .int .i64 x.slot, .int .i64 x.mode] 29))) := h1
  clear h1
  clear hR hb hc hk hl
  show Calls Try.prog 49 #[.agg #[.int .i64 x.tx, .int .i64 x.page, .int .i64 x.slot, .int .i64 x.mode], .pointer (some ⟨b, 0, none⟩), .pointer (some ⟨c, 0, none⟩)] W _
  by_cases h1 : x.tx = tx
  · obtain ⟨e1, n1⟩ := eq_facts h1
    have HV : Hid (keyB x tx k.page k.slot = sameV x.lock k) := Lib.hid (by unfold keyB; rw [hs]; simp [h1])
    generalize sameV x.lock k = q at *
    clear h1 hs
    go_enter Try.func49, Try.ntmps49
    go_upto_region 1 with (fail)
    generalize (W.alloc (.cells #[.int .i64 x.tx, .int .i64 x.page, .int .i64 x.slot, .int .i64 x.mode] 29)) = w1 at *
    have x0 : w1.cell? ⟨W.heap.size, 0, none⟩ = some (.int .i64 x.tx) := HS0.out.at 0 rfl 0 rfl
    have x1 : w1.cell? ⟨W.heap.size, 1, none⟩ = some (.int .i64 x.page) := HS0.out.at 0 rfl 1 rfl
    have x2 : w1.cell? ⟨W.heap.size, 2, none⟩ = some (.int .i64 x.slot) := HS0.out.at 0 rfl 2 rfl
    have x3 : w1.cell? ⟨W.heap.size, 3, none⟩ = some (.int .i64 x.mode) := HS0.out.at 0 rfl 3 rfl
    have dc0 := (HS0.out.old.cell (p := ⟨b, 0, none⟩) HLtb.out).trans c0
    have dk0 := (HS0.out.old.cell (p := ⟨c, 0, none⟩) HLtc.out).trans k0
    have dk1 := (HS0.out.old.cell (p := ⟨c, 1, none⟩) HLtc.out).trans k1
    have HB := Lib.hid HS0.out.old
    clear HS0 c0 k0 k1
    go_wp2
    go_ret
    exact ⟨ret_bool (by rw [HV.out]), HB.out⟩
  · obtain ⟨e1, n1⟩ := ne_facts h1
    have HV : Hid (keyB x tx k.page k.slot = false) := Lib.hid (by unfold keyB; simp [h1])
    clear h1 hs
    go_enter Try.func49, Try.ntmps49
    go_upto_region 1 with (fail)
    generalize (W.alloc (.cells #[.int .i64 x.tx, .int .i64 x.page, .int .i64 x.slot, .int .i64 x.mode] 29)) = w1 at *
    have x0 : w1.cell? ⟨W.heap.size, 0, none⟩ = some (.int .i64 x.tx) := HS0.out.at 0 rfl 0 rfl
    have x1 : w1.cell? ⟨W.heap.size, 1, none⟩ = some (.int .i64 x.page) := HS0.out.at 0 rfl 1 rfl
    have x2 : w1.cell? ⟨W.heap.size, 2, none⟩ = some (.int .i64 x.slot) := HS0.out.at 0 rfl 2 rfl
    have x3 : w1.cell? ⟨W.heap.size, 3, none⟩ = some (.int .i64 x.mode) := HS0.out.at 0 rfl 3 rfl
    have dc0 := (HS0.out.old.cell (p := ⟨b, 0, none⟩) HLtb.out).trans c0
    have dk0 := (HS0.out.old.cell (p := ⟨c, 0, none⟩) HLtc.out).trans k0
    have dk1 := (HS0.out.old.cell (p := ⟨c, 1, none⟩) HLtc.out).trans k1
    have HB := Lib.hid HS0.out.old
    clear HS0 c0 k0 k1
    go_wp2
    go_ret
    exact ⟨ret_bool (by rw [HV.out]), HB.out⟩
end Go.Proofs.Ytcnaalbpbalgdaa
/- the library's searches through grants, by whatever function that reads, and in the order of what is held; what the program makes of them (locks) -/
namespace Go.Proofs.Ytcnaalbpbalgdaa
open Go.RowKit
open Go.Act renaming put → z0
open List renaming setIfInBounds_toArray → z1, set_cons_zero → z2, set_cons_succ → z3
set_option maxRecDepth 20000
set_option linter.unusedSimpArgs false
set_option linter.unusedVariables false

/-- where the first one is, or -1 -/
def idxR {α : Type} (p : α → Bool) (l : List α) : Int := match l.findIdx? p with | some i => (i : Int) | none => -1
theorem idxR_none {α : Type} {p : α → Bool} {l : List α} (h : l.all (fun x => !p x) = true) : idxR p l = -1 := by
 unfold idxR
 have : l.findIdx? p = none := by
  rw [List.findIdx?_eq_none_iff]
  intro x hx
  have := (List.all_eq_true.1 h) x hx
  simpa using this
 rw [this]
theorem idxR_some {α : Type} {p : α → Bool} {l : List α} {k : Nat} (h : k < l.length) (hb : (l.take k).all (fun x => !p x) = true) (hx : p l[k] = true) : idxR p l = (k : Int) := by
 unfold idxR
 have : l.findIdx? p = some k := by
  rw [List.findIdx?_eq_some_iff_getElem]
  refine ⟨h, hx, fun j hj => ?_⟩
  have h1 : l[j] ∈ l.take k := by
   rw [List.mem_take_iff_getElem]
   exact ⟨j, by omega, rfl⟩
  have := (List.all_eq_true.1 hb) _ h1
  simpa using this
 rw [this]
abbrev qPk3_0 : Oper := { dst := some 24, op := Op.move (Operand.tmp 2), type := 68, pos := "sort.go:160", after := #[], guard := none }
abbrev qPk3_1 : Oper := { dst := some 25, op := Op.move (Operand.tmp 0), type := 23, pos := "sort.go:160", after := #[], guard := none }
abbrev qPk3_2 : Oper := { dst := some 26, op := Op.move (Operand.tmp 11), type := 3, pos := "sort.go:160", after := #[], guard := none }
abbrev qPk3_3 : Oper := { dst := some 27, op := Op.indexAddr 23 (Operand.tmp 25) (Operand.tmp 26), type := 0, pos := "sort.go:160", after := #[{ on := 1, ground := Ground.data }, { on := 2, ground := Ground.data }], guard := none }
abbrev qPk3_4 : Oper := { dst := some 28, op := Op.load 29 (Operand.tmp 27), type := 29, pos := "sort.go:160", after := #[{ on := 3, ground := Ground.data }], guard := none }
abbrev qPk3_5 : Oper := { dst := some 29, op := Op.load 29 (Operand.tmp 4), type := 29, pos := "sort.go:160", after := #[], guard := none }
abbrev qPk3_6 : Oper := { dst := some 30, op := Op.call { callee := Callee.value (Operand.tmp 24), args := #[Operand.tmp 28, Operand.tmp 29], argTypes := #[29, 29] }, type := 3, pos := "sort.go:160", after := #[{ on := 0, ground := Ground.data }, { on := 4, ground := Ground.data }, { on := 5, ground := Ground.data }], guard := none }
abbrev qPk3_7 : Oper := { dst := some 31, op := Op.binOp BinOp.lss 3 (Operand.tmp 30) (Operand.const (Value.int IntKind.i64 0)) 3, type := 4, pos := "sort.go:160", after := #[{ on := 6, ground := Ground.data }], guard := none }
abbrev qPk3_8 : Oper := { dst := some 35, op := Op.move (Operand.tmp 9), type := 3, pos := "sort.go:167", after := #[], guard := none }
abbrev qPk3_9 : Oper := { dst := some 36, op := Op.move (Operand.tmp 9), type := 3, pos := "sort.go:167", after := #[], guard := none }
abbrev qPk3_10 : Oper := { dst := some 37, op := Op.move (Operand.tmp 8), type := 3, pos := "sort.go:167", after := #[], guard := none }
abbrev qPk3_11 : Oper := { dst := some 38, op := Op.binOp BinOp.lss 3 (Operand.tmp 36) (Operand.tmp 37) 3, type := 4, pos := "sort.go:167", after := #[{ on := 1, ground := Ground.data }, { on := 2, ground := Ground.data }], guard := none }
abbrev qPk3_12 : Oper := { dst := some 39, op := Op.move (Operand.tmp 38), type := 4, pos := "sort.go:167", after := #[{ on := 3, ground := Ground.data }], guard := none }
abbrev qPk3_13 : Oper := { dst := some 40, op := Op.move (Operand.tmp 2), type := 68, pos := "sort.go:167", after := #[{ on := 4, ground := Ground.guard }], guard := some (4, true) }
abbrev qPk3_14 : Oper := { dst := some 41, op := Op.move (Operand.tmp 0), type := 23, pos := "sort.go:167", after := #[{ on := 4, ground := Ground.guard }], guard := some (4, true) }
abbrev qPk3_15 : Oper := { dst := some 42, op := Op.move (Operand.tmp 9), type := 3, pos := "sort.go:167", after := #[{ on := 4, ground := Ground.guard }], guard := some (4, true) }
abbrev qPk3_16 : Oper := { dst := some 43, op := Op.indexAddr 23 (Operand.tmp 41) (Operand.tmp 42), type := 0, pos := "sort.go:167", after := #[{ on := 6, ground := Ground.data }, { on := 7, ground := Ground.data }, { on := 4, ground := Ground.guard }], guard := some (4, true) }
abbrev qPk3_17 : Oper := { dst := some 44, op := Op.load 29 (Operand.tmp 43), type := 29, pos := "sort.go:167", after := #[{ on := 8, ground := Ground.data }, { on := 4, ground := Ground.guard }], guard := some (4, true) }
abbrev qPk3_18 : Oper := { dst := some 45, op := Op.load 29 (Operand.tmp 4), type := 29, pos := "sort.go:167", after := #[{ on := 4, ground := Ground.guard }], guard := some (4, true) }
abbrev qPk3_19 : Oper := { dst := some 46, op := Op.call { callee := Callee.value (Operand.tmp 40), args := #[Operand.tmp 44, Operand.tmp 45], argTypes := #[29, 29] }, type := 3, pos := "sort.go:167", after := #[{ on := 5, ground := Ground.data }, { on := 9, ground := Ground.data }, { on := 10, ground := Ground.data }, { on := 4, ground := Ground.chain }, { on := 4, ground := Ground.guard }], guard := some (4, true) }
abbrev qPk3_20 : Oper := { dst := some 47, op := Op.binOp BinOp.eql 3 (Operand.tmp 46) (Operand.const (Value.int IntKind.i64 0)) 3, type := 4, pos := "sort.go:167", after := #[{ on := 11, ground := Ground.data }, { on := 4, ground := Ground.guard }, { on := 14, ground := Ground.gcOnly Departure.lateStores }], guard := some (4, true) }
abbrev qPk3_21 : Oper := { dst := some 48, op := Op.pick (Operand.tmp 39) (Operand.tmp 47) (Operand.const (Value.bool false)), type := 4, pos := "sort.go:167", after := #[{ on := 4, ground := Ground.data }, { on := 12, ground := Ground.data }, { on := 14, ground := Ground.gcOnly Departure.lateStores }], guard := none }
abbrev qPk3_22 : Oper := { dst := some 6, op := Op.assign (Operand.tmp 35), type := 3, pos := "sort.go:167", after := #[{ on := 0, ground := Ground.data }, { on := 11, ground := Ground.chain }, { on := 0, ground := Ground.phase }, { on := 1, ground := Ground.textOnly Departure.lateStores }, { on := 2, ground := Ground.textOnly Departure.lateStores }, { on := 3, ground := Ground.textOnly Departure.lateStores }, { on := 4, ground := Ground.textOnly Departure.lateStores }, { on := 5, ground := Ground.textOnly Departure.lateStores }, { on := 6, ground := Ground.textOnly Departure.lateStores }, { on := 7, ground := Ground.textOnly Departure.lateStores }, { on := 8, ground := Ground.textOnly Departure.lateStores }, { on := 9, ground := Ground.textOnly Departure.lateStores }, { on := 10, ground := Ground.textOnly Departure.lateStores }, { on := 11, ground := Ground.textOnly Departure.lateStoresUnsure }, { on := 12, ground := Ground.textOnly Departure.lateStores }, { on := 13, ground := Ground.textOnly Departure.lateStores }], guard := none }
abbrev qPk3_23 : Oper := { dst := some 7, op := Op.assign (Operand.tmp 48), type := 4, pos := "sort.go:167", after := #[{ on := 13, ground := Ground.data }, { on := 14, ground := Ground.chain }, { on := 0, ground := Ground.phase }, { on := 1, ground := Ground.phase }, { on := 2, ground := Ground.phase }, { on := 3, ground := Ground.phase }, { on := 4, ground := Ground.phase }, { on := 5, ground := Ground.phase }, { on := 6, ground := Ground.phase }, { on := 7, ground := Ground.phase }, { on := 8, ground := Ground.phase }, { on := 9, ground := Ground.phase }, { on := 10, ground := Ground.phase }, { on := 11, ground := Ground.phase }, { on := 12, ground := Ground.phase }, { on := 13, ground := Ground.phase }, { on := 14, ground := Ground.phase }], guard := none }
set_option maxHeartbeats 4000000 in
theorem idxGr_any (g : Nat) (lb : Array Value) (q : Gr → Bool) (l : List Gr) (v : Value) (R : List Rng) (w : World) (eg : EntersF g) (hp : GrFn g lb q l w) (hv : GrRd v l R) (hR : RdIn w R) (hl : l.length ≤ 200000) :
  Calls Try.prog 55 #[v, .func (.func g) #[] lb] w fun e w' => e = .returned (.int .i64 (idxR q l)) ∧ Below w.heap.size w w' := by
 obtain ⟨a, cap, rfl, hnc, hcm, hg⟩ := SlRd.open hv hR
 obtain ⟨fs, huf⟩ := under_gr
 have HUF := Lib.hid huf
 have HC : Hid (l.length ≤ cap ∧ cap ≤ maxLen) := ⟨hnc, hcm⟩
 have HL := Lib.hid hl
 have HP := Lib.hid hp
 clear hv hR hnc hcm hl huf hp
 unfold EntersF at eg
 go_enter Try.func55, Try.ntmps55
 go_wp2_with fail
 go_loopw [8] (fun i wr => ∃ k : Nat, k ≤ l.length ∧ i = .int .i64 k ∧ (l.take k).all (fun x => !q x) = true ∧ Below w.heap.size w wr) (fun i _ => l.length - (intOf i).toNat)
 case atStart => exact ⟨0, by omega, rfl, rfl, Below.refl _ _⟩
 case round =>
  obtain ⟨k, hk, rfl, hh, hb⟩ := hrel
  have HB := Lib.hid hb
  have HH := Lib.hid hh
  clear hb hh
  by_cases hlt : k < l.length
  ·obtain ⟨b, off, rfl, hr⟩ := hg.out (by omega)
   obtain ⟨x, hx⟩ : ∃ x, l[k] = x := ⟨_, rfl⟩
   have hcells : Hid (wr.rangeAt b (off + k * 4) (grCells x)) := fun j u hj => by
    rw [Nat.add_assoc]
    exact hr wr HB.out (k * 4 + j) u (grRow_at l k x (by rw [List.getElem?_eq_getElem hlt, hx]) j u hj)
   have hki : (k : Int) < (l.length : Int) := by omega
   have hk0 : (0 : Int) ≤ (k : Int) := by omega
   have hkm : (k : Int) < 200001 := by have := HL.out; omega
   have hcall := HP.out wr x (by rw [← hx]; exact List.getElem_mem hlt) HB.out
   have HY : Hid (q x = true → idxR q l = (k : Int)) := fun h => idxR_some hlt HH.out (by rw [hx]; exact h)
   have HN : Hid (q x = false → (l.take (k + 1)).all (fun x => !q x) = true) := fun h => all_take (f := fun x => !q x) hlt HH.out (by rw [hx, h]; rfl)
   clear hr hx
   cases hq : q x
   ·have HX := HN.out hq
    rw [hq] at hcall
    have HX2 := Lib.hid HX
    clear HX HY HN
    go_wp2_with (first | ((with_reducible refine wpList_load_at 29 (.tmp 14) b (off + k * 4) (grCells x) HUF.out ?_ ?_ ?_ ?_ ?_); (exact rfl); (exact hcells.out); (exact rfl); (exact info_gr); simp only [Act.put, List.setIfInBounds_toArray, List.set_cons_zero, List.set_cons_succ]))
    refine hcall.mono ?_
    rintro e w2 ⟨rfl, hb⟩
    have HB2 : Hid (Below w.heap.size w w2) := HB.out.trans (hb.mono HB.out.size)
    clear hb
    go_wp2_with fail
    go_roundw
    case rel => exact ⟨k + 1, by omega, by go_num, HX2.out, HB2.out⟩
    case measure => simp [intOf]; omega
   ·have HX := Lib.hid (HY.out hq)
    rw [hq] at hcall
    clear HY HN
    go_wp2_with (first | ((with_reducible refine wpList_load_at 29 (.tmp 14) b (off + k * 4) (grCells x) HUF.out ?_ ?_ ?_ ?_ ?_); (exact rfl); (exact hcells.out); (exact rfl); (exact info_gr); simp only [Act.put, List.setIfInBounds_toArray, List.set_cons_zero, List.set_cons_succ]))
    refine hcall.mono ?_
    rintro e w2 ⟨rfl, hb⟩
    have HB2 : Hid (Below w.heap.size w w2) := HB.out.trans (hb.mono HB.out.size)
    clear hb
    go_wp2_with fail
    go_ret
    exact ⟨by rw [HX.out]; rfl, HB2.out⟩
  ·obtain rfl : k = l.length := by omega
   rw [List.take_length] at HH
   have HX := Lib.hid (idxR_none HH.out)
   go_wp2_with fail
   go_ret
   exact ⟨by rw [HX.out]; rfl, HB.out⟩
theorem idxR_nonneg {α : Type} (p : α → Bool) (l : List α) : decide (0 ≤ idxR p l) = l.any p := by
 unfold idxR
 cases h : l.findIdx? p with
 | none =>
  rw [List.findIdx?_eq_none_iff] at h
  have : l.any p = false := by rw [List.any_eq_false]; intro x hx; simp [h x hx]
  rw [this]; rfl
 | some i =>
  obtain ⟨hi, hx, _⟩ := List.findIdx?_eq_some_iff_getElem.1 h
  have : l.any p = true := List.any_eq_true.2 ⟨_, List.getElem_mem hi, hx⟩
  rw [this]
  simp
set_option maxHeartbeats 4000000 in
theorem contains_any (g : Nat) (lb : Array Value) (q : Gr → Bool) (l : List Gr) (v : Value) (R : List Rng) (w : World) (eg : EntersF g) (hp : GrFn g lb q l w) (hv : GrRd v l R) (hR : RdIn w R) (hl : l.length ≤ 200000) :
  Calls Try.prog 61 #[v, .func (.func g) #[] lb] w fun e w' => e = .returned (.bool (l.any q)) ∧ Below w.heap.size w w' := by
 have hIx := idxGr_any g lb q l v R w eg hp hv hR hl
 have hd := idxR_nonneg q l
 rw [← hd]
 generalize idxR q l = i at *
 clear hd hp hv hR hl eg
 go_enter Try.func61, Try.ntmps61
 go_wp2_with fail
 refine hIx.mono ?_
 rintro e w2 ⟨rfl, hb⟩
 clear hIx
 have HB := Lib.hid hb
 clear hb
 go_wp2_with fail
 go_ret
 exact ⟨rfl, HB.out⟩
structure PosG (t : Gr) (l : List Gr) (i : Nat) : Prop where
 le : i ≤ l.length
 low : ∀ j (h : j < l.length), j < i → GLt l[j] t
 high : ∀ j (h : j < l.length), i ≤ j → ¬ GLt l[j] t
theorem GLt.notlt {a b c : Gr} (h : GLt a b) (k : ¬ GLt a c) : ¬ GLt b c := fun h2 => k (h.trans h2)
def keyAt (l : List Gr) (i : Nat) (t : Gr) : Bool := match l[i]? with | some x => keyB x t.tx t.page t.slot | none => false
set_option maxHeartbeats 8000000 in
theorem binSearch_any (t : Gr) (l : List Gr) (v : Value) (R : List Rng) (w : World) (hs : l.Pairwise GLt) (hv : GrRd v l R) (hR : RdIn w R) (hl : l.length ≤ 200000) :
  Calls Try.prog 71 #[v, .agg (grCells t).toArray, .func (.func 53) #[] #[]] w fun e w' => ∃ i : Nat, e = .returned (.tuple #[.int .i64 i, .bool (keyAt l i t)]) ∧ PosG t l i ∧ Below w.heap.size w w' := by
 obtain ⟨a, cap, rfl, hnc, hcm, hg⟩ := SlRd.open hv hR
 obtain ⟨fs, huf⟩ := under_gr
 have HUG := Lib.hid huf
 have HC : Hid (l.length ≤ cap ∧ cap ≤ maxLen) := ⟨hnc, hcm⟩
 have HL := Lib.hid hl
 have HS := Lib.hid hs
 have eg : ∀ args w, (callFunc 53 args).run Try.prog w = .ok (.enter 53 args) w := enters_of Try.func53 (by kernel_rfl) rfl
 have HOr : Hid (∀ x W, Calls Try.prog 53 #[.agg (grCells x).toArray, .agg (grCells t).toArray] W fun e w' => e = .returned (.int .i64 (ordI x t)) ∧ Below W.heap.size W w') := fun x W => order_any x t W
 have h1 := (Hp.start w).put 29 (grCells t)
 have HS0 : Hid (Hp w [.ob w.heap.size 29 (grCells t)] (w.alloc (.cells (grCells t).toArray 29))) := h1
 clear hv hR hnc hcm hl hs huf h1
 go_enter Try.func71, Try.ntmps71
 go_upto_region 1 with (fail)
 generalize (w.alloc (.cells (grCells t).toArray 29)) = w1 at *
 go_wp2_with fail
 go_loopw [9, 10] (fun si sj wr => ∃ i j : Nat, si = .int .i64 i ∧ sj = .int .i64 j ∧ i ≤ j ∧ j ≤ l.length ∧ (∀ k (h : k < l.length), k < i → GLt l[k] t) ∧ (∀ k (h : k < l.length), j ≤ k → ¬ GLt l[k] t) ∧ Hp w [.ob w.heap.size 29 (grCells t)] wr) (fun si sj _ => (intOf sj).toNat - (intOf si).toNat)
 case atStart => exact ⟨0, l.length, rfl, rfl, by omega, by omega, fun k h hk => absurd hk (Nat.not_lt_zero _), fun k h hk => absurd hk (by omega), HS0.out⟩
 case round =>
  clear HS0
  obtain ⟨i, j, rfl, rfl, hij, hj, hlo, hhi, hsr⟩ := hrel
  have HLo := Lib.hid hlo
  have HHi := Lib.hid hhi
  have HIJ : Hid (i ≤ j ∧ j ≤ l.length) := ⟨hij, hj⟩
  have HY := Lib.hid hsr
  clear hlo hhi hsr
  by_cases hlt : i < j
  ·obtain ⟨h, hh⟩ : ∃ h, (i + j) / 2 = h := ⟨_, rfl⟩
   have hih : i ≤ h ∧ h < j := by omega
   have hhl : h < l.length := by omega
   obtain ⟨b, off, rfl, hr⟩ := hg.out (by omega)
   obtain ⟨y, hy⟩ : ∃ y, l[h]? = some y := ⟨_, List.getElem?_eq_getElem hhl⟩
   have HRow : Hid (∀ W, Below w.heap.size w W → W.rangeAt b (off + h * 4) (grCells y)) := fun W hb => elem_rng (hr W hb) hy
   have hlm : (l.length : Int) < 200001 := by have := HL.out; omega
   have hi1 : (i : Int) < (j : Int) := by omega
   have hw0 : IntKind.i64.wrap ((i : Int) + (j : Int)) = (i : Int) + (j : Int) := by rw [IntKind.wrap_i64]; omega
   have hw1 : IntKind.u64.wrap ((i : Int) + (j : Int)) = (i : Int) + (j : Int) := by rw [IntKind.wrap_u64]; omega
   have hw2 : ((i : Int) + (j : Int)) / 2 = (h : Int) := by omega
   have hw3 : IntKind.i64.wrap (h : Int) = (h : Int) := by rw [IntKind.wrap_i64]; omega
   have hw4 : IntKind.u64.wrap (h : Int) = (h : Int) := by rw [IntKind.wrap_u64]; omega
   have hh0 : (0 : Int) ≤ (h : Int) := by omega
   have hhl2 : (h : Int) < (l.length : Int) := by omega
   have hw5 : IntKind.i64.wrap ((h : Int) + 1) = (h : Int) + 1 := by rw [IntKind.wrap_i64]; omega
   have HH : Hid (i ≤ h ∧ h < j ∧ h < l.length) := ⟨hih.1, hih.2, hhl⟩
   have hyy : l[h] = y := by rw [List.getElem?_eq_getElem hhl] at hy; exact Option.some.inj hy
   have hmono : Hid (∀ k (hk : k < l.length), k ≤ h → GLt y t → GLt l[k] t) := fun k hk hkh hyt => by
    rcases Nat.lt_or_eq_of_le hkh with h1 | h1
    ·have := List.pairwise_iff_getElem.1 HS.out k h hk hhl h1
     rw [hyy] at this; exact this.trans hyt
    ·subst h1; rw [hyy]; exact hyt
   have hmono2 : Hid (∀ k (hk : k < l.length), h ≤ k → ¬ GLt y t → ¬ GLt l[k] t) := fun k hk hkh hyt => by
    rcases Nat.lt_or_eq_of_le hkh with h1 | h1
    ·have := List.pairwise_iff_getElem.1 HS.out h k hhl hk h1
     rw [hyy] at this; exact this.notlt hyt
    ·subst h1; rw [hyy]; exact hyt
   have hor := HOr.out y
   have hneg := @ordI_neg y t
   clear hr hy hyy hg hih hh hhl HOr
   generalize ordI y t = o at *
   obtain ⟨q, hq⟩ : ∃ q, decide (o < 0) = q := ⟨_, rfl⟩
   go_upto_region 5 with (fail)
   refine wp_region_held_drew (S := fun w' => w'.rangeAt b (off + h * 4) (grCells y) ∧ w'.rangeAt w.heap.size 0 (grCells t)) (by kernel_rfl) (⟨HRow.out _ ((HY.out).drew).old, (fun j v hv => by rw [Nat.zero_add]; exact ((HY.out).drew).at 0 rfl j hv)⟩) (fun hHeld => ?_)
   refine tk 0 qPk3_0 (some 24) (v := ?q1v) (Or.inl ⟨by rfl, ?q1h⟩) hHeld ?q1r
   case q1h => (intro wq hSw; clear hSw; go_simp; try with_reducible rfl)
   try simp only [z0, z1, z2, z3]
   refine tk 1 qPk3_1 (some 25) (v := ?q2v) (Or.inl ⟨by rfl, ?q2h⟩) hHeld ?q2r
   case q2h => (intro wq hSw; clear hSw; go_simp; try with_reducible rfl)
   try simp only [z0, z1, z2, z3]
   refine tk 2 qPk3_2 (some 26) (v := ?q3v) (Or.inl ⟨by rfl, ?q3h⟩) hHeld ?q3r
   case q3h => (intro wq hSw; clear hSw; go_simp; try with_reducible rfl)
   try simp only [z0, z1, z2, z3]
   refine tk 3 qPk3_3 (some 27) (v := ?q4v) (Or.inl ⟨by rfl, ?q4h⟩) hHeld ?q4r
   case q4h => (intro wq hSw; clear hSw; go_simp; try with_reducible rfl)
   try simp only [z0, z1, z2, z3]
   refine tk 4 qPk3_4 (some 28) (yieldsIf_load_mid (by rfl) 29 (.tmp 27) rfl b (off + h * 4) rfl (grCells y) _ (fun _ h => h.1) HUG.out rfl (info_gr)) hHeld ?_
   try simp only [z0, z1, z2, z3]
   refine tk 5 qPk3_5 (some 29) (yieldsIf_load_mid (by rfl) 29 (.tmp 4) rfl w.heap.size (0) rfl (grCells t) _ (fun _ h => h.2) HUG.out rfl (info_gr)) hHeld ?_
   try simp only [z0, z1, z2, z3]
   refine tn 6 qPk3_6 (fun K hK => ?_)
   go_simp
   go_wp2_with fail
   refine (hor _).mono ?_
   rintro e w1 ⟨rfl, hb⟩
   have HS1 : Hid (Hp w [.ob (w.heap.size) 29 (grCells t)] w1) := ((HY.out).drew).calls hb
   refine hK.out _ _ (⟨HRow.out _ (HS1.out).old, (fun j v hv => by rw [Nat.zero_add]; exact (HS1.out).at 0 rfl j hv)⟩) (fun hHeld => ?_)
   clear hK K hb
   try simp only [z0, z1, z2, z3]
   refine tk 7 qPk3_7 (some 31) (v := .bool q) (Or.inl ⟨by rfl, ?q7h⟩) hHeld ?q7r
   case q7h => (intro wq hSw; clear hSw; go_simp; try with_reducible rfl)
   try simp only [z0, z1, z2, z3]
   refine wpAnyH_done (by kernel_rfl) ?_ _
   clear hHeld hor hw0 hw1 hw2 hw3 hw4 hlm hi1
   cases q
   case true =>
    have HG := Lib.hid (hneg.1 (of_decide_eq_true hq))
    clear hneg hq
    go_wp2_with fail
    go_roundw
    case rel => exact ⟨h + 1, j, by go_num, rfl, by have := HH.out; omega, HIJ.out.2, fun k hk hkh => hmono.out k hk (by omega) HG.out, HHi.out, HS1.out⟩
    case measure => have := HH.out; simp [intOf]; omega
   case false =>
    have HG := Lib.hid (fun h => of_decide_eq_false hq (hneg.2 h))
    clear hneg hq
    go_wp2_with fail
    go_roundw
    case rel => exact ⟨i, h, rfl, rfl, HH.out.1, by have := HH.out; omega, HLo.out, fun k hk hkh => hmono2.out k hk hkh HG.out, HS1.out⟩
    case measure => have := HH.out; simp [intOf]; omega
  ·obtain rfl : i = j := by omega
   have HP : Hid (PosG t l i) := ⟨hj, HLo.out, fun k hk hik => HHi.out k hk hik⟩
   have hlm : (l.length : Int) < 200001 := by have := HL.out; omega
   have hi0 : (0 : Int) ≤ (i : Int) := by omega
   by_cases hil : i < l.length
   ·obtain ⟨b, off, rfl, hr⟩ := hg.out (by omega)
    obtain ⟨y, hy⟩ : ∃ y, l[i]? = some y := ⟨_, List.getElem?_eq_getElem hil⟩
    have HRow : Hid (∀ W, Below w.heap.size w W → W.rangeAt b (off + i * 4) (grCells y)) := fun W hb => elem_rng (hr W hb) hy
    have hi1 : (i : Int) < (l.length : Int) := by omega
    have hor := HOr.out y
    have hzero := @ordI_zero y t
    have HKey : Hid (keyAt l i t = keyB y t.tx t.page t.slot) := Lib.hid (by unfold keyAt; rw [hy])
    have HKb : Hid (keyB y t.tx t.page t.slot = decide (ordI y t = 0)) := Lib.hid (by rw [Bool.eq_iff_iff, keyB_iff, decide_eq_true_eq]; exact hzero.symm)
    clear hr hy hg HOr hzero
    generalize ordI y t = o at *
    go_upto_region 8 with (fail)
    refine wp_region_held_drew (S := fun w' => w'.rangeAt b (off + i * 4) (grCells y) ∧ w'.rangeAt w.heap.size 0 (grCells t)) (by kernel_rfl) (⟨HRow.out _ ((HY.out).drew).old, (fun j v hv => by rw [Nat.zero_add]; exact ((HY.out).drew).at 0 rfl j hv)⟩) (fun hHeld => ?_)
    refine tk 0 qPk3_8 (some 35) (v := ?q101v) (Or.inl ⟨by rfl, ?q101h⟩) hHeld ?q101r
    case q101h => (intro wq hSw; clear hSw; go_simp; try with_reducible rfl)
    try simp only [z0, z1, z2, z3]
    refine tk 1 qPk3_9 (some 36) (v := ?q102v) (Or.inl ⟨by rfl, ?q102h⟩) hHeld ?q102r
    case q102h => (intro wq hSw; clear hSw; go_simp; try with_reducible rfl)
    try simp only [z0, z1, z2, z3]
    refine tk 2 qPk3_10 (some 37) (v := ?q103v) (Or.inl ⟨by rfl, ?q103h⟩) hHeld ?q103r
    case q103h => (intro wq hSw; clear hSw; go_simp; try with_reducible rfl)
    try simp only [z0, z1, z2, z3]
    refine tk 3 qPk3_11 (some 38) (v := .bool true) (Or.inl ⟨by rfl, ?q104h⟩) hHeld ?q104r
    case q104h => (intro wq hSw; clear hSw; go_simp; try with_reducible rfl)
    try simp only [z0, z1, z2, z3]
    refine tk 4 qPk3_12 (some 39) (v := ?q105v) (Or.inl ⟨by rfl, ?q105h⟩) hHeld ?q105r
    case q105h => (intro wq hSw; clear hSw; go_simp; try with_reducible rfl)
    try simp only [z0, z1, z2, z3]
    refine tk 5 qPk3_13 (some 40) (v := ?q106v) (Or.inl ⟨by rfl, ?q106h⟩) hHeld ?q106r
    case q106h => (intro wq hSw; clear hSw; go_simp; try with_reducible rfl)
    try simp only [z0, z1, z2, z3]
    refine tk 6 qPk3_14 (some 41) (v := ?q107v) (Or.inl ⟨by rfl, ?q107h⟩) hHeld ?q107r
    case q107h => (intro wq hSw; clear hSw; go_simp; try with_reducible rfl)
    try simp only [z0, z1, z2, z3]
    refine tk 7 qPk3_15 (some 42) (v := ?q108v) (Or.inl ⟨by rfl, ?q108h⟩) hHeld ?q108r
    case q108h => (intro wq hSw; clear hSw; go_simp; try with_reducible rfl)
    try simp only [z0, z1, z2, z3]
    refine tk 8 qPk3_16 (some 43) (v := ?q109v) (Or.inl ⟨by rfl, ?q109h⟩) hHeld ?q109r
    case q109h => (intro wq hSw; clear hSw; go_simp; try with_reducible rfl)
    try simp only [z0, z1, z2, z3]
    refine tk 9 qPk3_17 (some 44) (yieldsIf_load_mid (by rfl) 29 (.tmp 43) rfl b (off + i * 4) rfl (grCells y) _ (fun _ h => h.1) HUG.out rfl (info_gr)) hHeld ?_
    try simp only [z0, z1, z2, z3]
    refine tk 10 qPk3_18 (some 45) (yieldsIf_load_mid (by rfl) 29 (.tmp 4) rfl w.heap.size (0) rfl (grCells t) _ (fun _ h => h.2) HUG.out rfl (info_gr)) hHeld ?_
    try simp only [z0, z1, z2, z3]
    refine tn 11 qPk3_19 (fun K hK => ?_)
    go_simp
    go_wp2_with fail
    refine (hor _).mono ?_
    rintro e w1 ⟨rfl, hb⟩
    have HS1 : Hid (Hp w [.ob (w.heap.size) 29 (grCells t)] w1) := ((HY.out).drew).calls hb
    refine hK.out _ _ (⟨HRow.out _ (HS1.out).old, (fun j v hv => by rw [Nat.zero_add]; exact (HS1.out).at 0 rfl j hv)⟩) (fun hHeld => ?_)
    clear hK K hb
    try simp only [z0, z1, z2, z3]
    refine tk 12 qPk3_20 (some 47) (v := ?q112v) (Or.inl ⟨by rfl, ?q112h⟩) hHeld ?q112r
    case q112h => (intro wq hSw; clear hSw; go_simp; try with_reducible rfl)
    try simp only [z0, z1, z2, z3]
    refine tk 13 qPk3_21 (some 48) (v := ?q113v) (Or.inl ⟨by rfl, ?q113h⟩) hHeld ?q113r
    case q113h => (intro wq hSw; clear hSw; go_simp; try with_reducible rfl)
    try simp only [z0, z1, z2, z3]
    refine tk 14 qPk3_22 (some 6) (v := ?q114v) (Or.inl ⟨by rfl, ?q114h⟩) hHeld ?q114r
    case q114h => (intro wq hSw; clear hSw; go_simp; try with_reducible rfl)
    try simp only [z0, z1, z2, z3]
    refine tk 15 qPk3_23 (some 7) (v := ?q115v) (Or.inl ⟨by rfl, ?q115h⟩) hHeld ?q115r
    case q115h => (intro wq hSw; clear hSw; go_simp; try with_reducible rfl)
    try simp only [z0, z1, z2, z3]
    refine wpAnyH_done (by kernel_rfl) ?_ _
    go_wp2_with fail
    clear hHeld hor
    exact bodyPost_ret (v := .tuple #[.int .i64 i, .bool (o == 0)]) (by simp [results, Try.results71, go_sem]) rfl ⟨i, by rw [HKey.out, HKb.out, beq_dec'], HP.out, (HS1.out).old⟩
   ·have hi1 : ¬ (i : Int) < (l.length : Int) := by omega
    have HKey : Hid (keyAt l i t = false) := Lib.hid (by unfold keyAt; rw [List.getElem?_eq_none (by omega)])
    clear hg
    go_upto_region 8 with (fail)
    refine wp_region_held_drew (S := fun w' => True) (by kernel_rfl) (trivial) (fun hHeld => ?_)
    refine tk 0 qPk3_8 (some 35) (v := ?q201v) (Or.inl ⟨by rfl, ?q201h⟩) hHeld ?q201r
    case q201h => (intro wq hSw; clear hSw; go_simp; try with_reducible rfl)
    try simp only [z0, z1, z2, z3]
    refine tk 1 qPk3_9 (some 36) (v := ?q202v) (Or.inl ⟨by rfl, ?q202h⟩) hHeld ?q202r
    case q202h => (intro wq hSw; clear hSw; go_simp; try with_reducible rfl)
    try simp only [z0, z1, z2, z3]
    refine tk 2 qPk3_10 (some 37) (v := ?q203v) (Or.inl ⟨by rfl, ?q203h⟩) hHeld ?q203r
    case q203h => (intro wq hSw; clear hSw; go_simp; try with_reducible rfl)
    try simp only [z0, z1, z2, z3]
    refine tk 3 qPk3_11 (some 38) (v := .bool false) (Or.inl ⟨by rfl, ?q204h⟩) hHeld ?q204r
    case q204h => (intro wq hSw; clear hSw; go_simp; try with_reducible rfl)
    try simp only [z0, z1, z2, z3]
    refine tk 4 qPk3_12 (some 39) (v := ?q205v) (Or.inl ⟨by rfl, ?q205h⟩) hHeld ?q205r
    case q205h => (intro wq hSw; clear hSw; go_simp; try with_reducible rfl)
    try simp only [z0, z1, z2, z3]
    refine tk 5 qPk3_13 (some 40) (v := undef) (Or.inr ⟨by rfl, rfl⟩) hHeld ?_
    try simp only [z0, z1, z2, z3]
    refine tk 6 qPk3_14 (some 41) (v := undef) (Or.inr ⟨by rfl, rfl⟩) hHeld ?_
    try simp only [z0, z1, z2, z3]
    refine tk 7 qPk3_15 (some 42) (v := undef) (Or.inr ⟨by rfl, rfl⟩) hHeld ?_
    try simp only [z0, z1, z2, z3]
    refine tk 8 qPk3_16 (some 43) (v := undef) (Or.inr ⟨by rfl, rfl⟩) hHeld ?_
    try simp only [z0, z1, z2, z3]
    refine tk 9 qPk3_17 (some 44) (v := undef) (Or.inr ⟨by rfl, rfl⟩) hHeld ?_
    try simp only [z0, z1, z2, z3]
    refine tk 10 qPk3_18 (some 45) (v := undef) (Or.inr ⟨by rfl, rfl⟩) hHeld ?_
    try simp only [z0, z1, z2, z3]
    refine tk 11 qPk3_19 (some 46) (v := undef) (Or.inr ⟨by rfl, rfl⟩) hHeld ?_
    try simp only [z0, z1, z2, z3]
    refine tk 12 qPk3_20 (some 47) (v := undef) (Or.inr ⟨by rfl, rfl⟩) hHeld ?_
    try simp only [z0, z1, z2, z3]
    refine tk 13 qPk3_21 (some 48) (v := ?q214v) (Or.inl ⟨by rfl, ?q214h⟩) hHeld ?q214r
    case q214h => (intro wq hSw; clear hSw; go_simp; try with_reducible rfl)
    try simp only [z0, z1, z2, z3]
    refine tk 14 qPk3_22 (some 6) (v := ?q215v) (Or.inl ⟨by rfl, ?q215h⟩) hHeld ?q215r
    case q215h => (intro wq hSw; clear hSw; go_simp; try with_reducible rfl)
    try simp only [z0, z1, z2, z3]
    refine tk 15 qPk3_23 (some 7) (v := ?q216v) (Or.inl ⟨by rfl, ?q216h⟩) hHeld ?q216r
    case q216h => (intro wq hSw; clear hSw; go_simp; try with_reducible rfl)
    try simp only [z0, z1, z2, z3]
    refine wpAnyH_done (by kernel_rfl) ?_ _
    go_wp2_with fail
    exact bodyPost_ret (v := .tuple #[.int .i64 i, .bool false]) (by simp [results, Try.results71, go_sem]) rfl ⟨i, by rw [HKey.out], HP.out, ((HY.out).drew).old⟩

end Go.Proofs.Ytcnaalbpbalgdaa
/- the program's place, mode, holders, upgrade (locks) -/
namespace Go.Proofs.Ytcnaalbpbalgdaa
open Go.RowKit
set_option maxRecDepth 20000
set_option linter.unusedSimpArgs false
set_option linter.unusedVariables false

theorem pos_find {t : Gr} {l : List Gr} {i : Nat} (hs : l.Pairwise GLt) (h : PosG t l i) : findK l t.tx t.page t.slot = if keyAt l i t = true then l[i]? else none := by
  by_cases hil : i < l.length
  · have hx : l[i]? = some l[i] := List.getElem?_eq_getElem hil
    have hk : keyAt l i t = keyB l[i] t.tx t.page t.slot := by unfold keyAt; rw [hx]
    cases hkb : keyB l[i] t.tx t.page t.slot with
    | true =>
      rw [hk, hkb, if_pos rfl, hx]
      have h1 := keyB_iff.1 hkb
      have := findK_mem hs (List.getElem_mem hil)
      rw [h1.1, h1.2.1, h1.2.2] at this
      exact this
    | false =>
      rw [hk, hkb, if_neg (by simp)]
      cases hf : findK l t.tx t.page t.slot with
      | none => rfl
      | some x =>
        exfalso
        obtain ⟨hm, h1, h2, h3⟩ := findK_some hf
        obtain ⟨j, hj, rfl⟩ := List.getElem_of_mem hm
        rcases Nat.lt_trichotomy j i with hji | rfl | hji
        · have := h.low j hj hji; unfold GLt at this; omega
        · have : keyB l[j] t.tx t.page t.slot = true := keyB_iff.2 ⟨h1, h2, h3⟩
          rw [hkb] at this; cases this
        · have h4 := List.pairwise_iff_getElem.1 hs i j hil hj hji
          have h5 := h.high i hil (Nat.le_refl _)
          unfold GLt at h4 h5; omega
  · have hx : l[i]? = none := List.getElem?_eq_none (by omega)
    have hk : keyAt l i t = false := by unfold keyAt; rw [hx]
    rw [hk, if_neg (by simp)]
    cases hf : findK l t.tx t.page t.slot with
    | none => rfl
    | some x =>
      exfalso
      obtain ⟨hm, h1, h2, h3⟩ := findK_some hf
      obtain ⟨j, hj, rfl⟩ := List.getElem_of_mem hm
      have := h.low j hj (by omega); unfold GLt at this; omega
theorem build_pl (tx : Int) (k : Lok) (W : World) : Sem.run Try.prog (Instr.build 29 #[(0, .int .i64 tx), (1, .agg (lkCells k).toArray)]) W = .ok (.agg (grCells ⟨tx, k.page, k.slot, 0⟩).toArray) W := by kernel_rfl
abbrev plG (tx : Int) (k : Lok) : Gr := ⟨tx, k.page, k.slot, 0⟩
def PlPost (l : List Gr) (t : Gr) (w : World) (e : Ending) (w' : World) : Prop := ∃ i : Nat, e = .returned (.tuple #[.int .i64 i, .bool (keyAt l i t)]) ∧ PosG t l i ∧ Below w.heap.size w w'
set_option maxHeartbeats 4000000 in
theorem place_any (tx : Int) (k : Lok) (l : List Gr) (v : Value) (R : List Rng) (w : World) (hs : l.Pairwise GLt) (hv : GrRd v l R) (hR : RdIn w R) (hl : l.length ≤ 200000) :
    Calls Try.prog 56 #[v, .int .i64 tx, .agg (lkCells k).toArray] w (PlPost l (plG tx k) w) := by
  have HBs : Hid (∀ W, Below w.heap.size w W → Calls Try.prog 71 #[v, .agg (grCells (plG tx k)).toArray, .func (.func 53) #[] #[]] W (PlPost l (plG tx k) W)) := fun W hb => binSearch_any _ l v R W hs hv (hR.below hb) hl
  have h1 := (Hp.start w).put 27 (lkCells k)
  have HS0 : Hid (Hp w [.ob w.heap.size 27 (lkCells k)] (w.alloc (.cells (lkCells k).toArray 27))) := h1
  clear h1 hs hv hR hl
  obtain ⟨fs, hu⟩ := under_lk
  have HUK := Lib.hid hu
  clear hu
  go_enter Try.func56, Try.ntmps56
  go_upto_region 1 with (fail)
  generalize (w.alloc (.cells (lkCells k).toArray 27)) = w1 at *
  go_wp2_with (first | ((with_reducible refine wpList_load_ob 27 (.tmp 5) w.heap.size (lkCells k) 27 HUK.out ?_ ?_ ?_ ?_ ?_); (exact rfl); (exact HS0.out.get 0 rfl); (exact rfl); (exact info_lk); simp only [Act.put, List.setIfInBounds_toArray, List.set_cons_zero, List.set_cons_succ]) | ((with_reducible refine wpList_build_v (d := some 11) 29 (.agg (grCells (plG tx k)).toArray) ?_ ?_); (intro W; simp only [List.map_toArray, List.map_cons, List.map_nil]; exact build_pl tx k W); simp only [Act.put, List.setIfInBounds_toArray, List.set_cons_zero, List.set_cons_succ]))
  refine (HBs.out _ HS0.out.old).mono ?_
  rintro e w2 ⟨i, rfl, hp, hb⟩
  have HP := Lib.hid hp
  have HS1 := Lib.hid (HS0.out.calls hb)
  clear hp hb HS0 HBs
  go_wp2_with fail
  exact bodyPost_ret (v := .tuple #[.int .i64 i, .bool (keyAt l i (plG tx k))]) (by simp [results, Try.results56, go_sem]) rfl ⟨i, rfl, HP.out, HS1.out.old⟩
set_option maxHeartbeats 4000000 in
theorem pmode_any (tx : Int) (k : Lok) (l : List Gr) (v : Value) (R : List Rng) (w : World) (hs : l.Pairwise GLt) (hv : GrRd v l R) (hR : RdIn w R) (hl : l.length ≤ 200000) :
    Calls Try.prog 41 #[v, .int .i64 tx, .agg (lkCells k).toArray] w fun e w' => e = .returned (.int .i64 (modeR l tx k.page k.slot)) ∧ Below w.heap.size w w' := by
  have HPl : Hid (∀ W, Below w.heap.size w W → Calls Try.prog 56 #[v, .int .i64 tx, .agg (lkCells k).toArray] W (PlPost l (plG tx k) W)) := fun W hb => place_any tx k l v R W hs hv (hR.below hb) hl
  obtain ⟨a, cap, rfl, hnc, hcm, hg⟩ := SlRd.open hv hR
  have h1 := (Hp.start w).put 27 (lkCells k)
  have HS0 : Hid (Hp w [.ob w.heap.size 27 (lkCells k)] (w.alloc (.cells (lkCells k).toArray 27))) := h1
  have HSo := Lib.hid hs
  have HL := Lib.hid hl
  clear h1 hs hv hR hl hnc hcm
  obtain ⟨fs, hu⟩ := under_lk
  have HUK := Lib.hid hu
  clear hu
  have HM : Hid (modeR l tx k.page k.slot = (findK l tx k.page k.slot).elim 0 Gr.mode) := rfl
  go_enter Try.func41, Try.ntmps41
  go_upto_region 1 with (fail)
  generalize (w.alloc (.cells (lkCells k).toArray 27)) = w1 at *
  go_wp2_with (first | ((with_reducible refine wpList_load_ob 27 (.tmp 5) w.heap.size (lkCells k) 27 HUK.out ?_ ?_ ?_ ?_ ?_); (exact rfl); (exact HS0.out.get 0 rfl); (exact rfl); (exact info_lk); simp only [Act.put, List.setIfInBounds_toArray, List.set_cons_zero, List.set_cons_succ]))
  refine (HPl.out _ HS0.out.old).mono ?_
  rintro e w2 ⟨i, rfl, hp, hb⟩
  have hf := pos_find HSo.out hp
  have HS1 := Lib.hid (HS0.out.calls hb)
  simp only at hf
  clear hb HS0 HPl
  cases hq : keyAt l i (plG tx k)
  · rw [hq] at hf
    have HV : Hid (modeR l tx k.page k.slot = 0) := Lib.hid (by rw [HM.out, hf]; rfl)
    clear hf hp hg
    go_wp2_with fail
    go_ret
    exact ⟨by rw [HV.out]; rfl, HS1.out.old⟩
  · rw [hq, if_pos rfl] at hf
    have hil : i < l.length := by
      rcases Nat.lt_or_ge i l.length with h | h
      · exact h
      · unfold keyAt at hq; rw [List.getElem?_eq_none h] at hq; cases hq
    obtain ⟨x, hx⟩ : ∃ x, l[i]? = some x := ⟨_, List.getElem?_eq_getElem hil⟩
    have HV : Hid (modeR l tx k.page k.slot = x.mode) := Lib.hid (by rw [HM.out, hf, hx]; rfl)
    obtain ⟨g, off, rfl, hr⟩ := hg.out (by omega)
    have c3 : w2.cell? ⟨g, off + i * 4 + 3, none⟩ = some (.int .i64 x.mode) := by have := hr w2 HS1.out.old (i * 4 + 3) _ (grRow_at l i x hx 3 _ rfl); exact this
    have hi1 : (i : Int) < (l.length : Int) := by omega
    have hi0 : (0 : Int) ≤ (i : Int) := by omega
    clear hf hp hg hr hx hq HM
    go_wp2_with fail
    go_ret
    exact ⟨by rw [HV.out]; rfl, HS1.out.old⟩
set_option maxHeartbeats 4000000 in
theorem upgrade_any (g : Gr) (l : List Gr) (v : Value) (R : List Rng) (w : World) (hs : l.Pairwise GLt) (hv : GrRd v l R) (hR : RdIn w R) (hl : l.length ≤ 200000) :
    Calls Try.prog 60 #[v, .agg (grCells g).toArray] w fun e w' => e = .returned (.bool (decide (0 < modeG l g))) ∧ Below w.heap.size w w' := by
  have HMo : Hid (∀ W, Below w.heap.size w W → Calls Try.prog 41 #[v, .int .i64 g.tx, .agg #[.int .i64 g.page, .int .i64 g.slot]] W fun e w' => e = .returned (.int .i64 (modeG l g)) ∧ Below W.heap.size W w') := fun W hb => pmode_any g.tx g.lock l v R W hs hv (hR.below hb) hl
  have h1 := (Hp.start w).put 29 (grCells g)
  have HS0 : Hid (Hp w [.ob w.heap.size 29 (grCells g)] (w.alloc (.cells (grCells g).toArray 29))) := h1
  clear h1 hs hv hR hl
  go_enter Try.func60, Try.ntmps60
  go_upto_region 1 with (fail)
  generalize (w.alloc (.cells (grCells g).toArray 29)) = w1 at *
  have x0 : w1.cell? ⟨w.heap.size, 0, none⟩ = some (.int .i64 g.tx) := HS0.out.at 0 rfl 0 rfl
  have x1 : w1.cell? ⟨w.heap.size, 1, none⟩ = some (.int .i64 g.page) := HS0.out.at 0 rfl 1 rfl
  have x2 : w1.cell? ⟨w.heap.size, 2, none⟩ = some (.int .i64 g.slot) := HS0.out.at 0 rfl 2 rfl
  go_wp2_with fail
  refine (HMo.out _ HS0.out.old).mono ?_
  rintro e w2 ⟨rfl, hb⟩
  have HS1 := Lib.hid (HS0.out.calls hb)
  clear hb HS0 HMo x0 x1 x2
  go_wp2_with fail
  go_ret
  exact ⟨rfl, HS1.out.old⟩
theorem pos_le {t u : Gr} {l : List Gr} {p q : Nat} (h : PosG t l p) (k : PosG u l q) (htu : GLt t u) : p ≤ q := by
  rcases Nat.lt_or_ge q p with h1 | h1
  · exfalso
    have hq : q < l.length := Nat.lt_of_lt_of_le h1 h.le
    exact k.high q hq (Nat.le_refl _) ((h.low q hq h1).trans htu)
  · exact h1
theorem mem_part {t u x : Gr} {l : List Gr} {p q : Nat} (h : PosG t l p) (k : PosG u l q) (hx : x ∈ l) (h1 : GLt t x) (h2 : GLt x u) : x ∈ (l.take q).drop p := by
  obtain ⟨j, hj, rfl⟩ := List.getElem_of_mem hx
  have hpj : p ≤ j := by
    rcases Nat.lt_or_ge j p with h3 | h3
    · exact absurd (h.low j hj h3) (fun h4 => h4.asymm h1)
    · exact h3
  have hjq : j < q := by
    rcases Nat.lt_or_ge j q with h3 | h3
    · exact h3
    · exact absurd h2 (k.high j hj h3)
  rw [List.mem_iff_getElem?]
  refine ⟨j - p, ?_⟩
  rw [List.getElem?_drop, List.getElem?_take, if_pos (by omega), show p + (j - p) = j from by omega, List.getElem?_eq_getElem hj]
theorem part_any {l : List Gr} {k : Lok} {p q : Nat} (hl : HeldOk l) (h : PosG (plG 0 k) l p) (h2 : PosG (plG 1073741825 k) l q) (g : Gr) (hg : g.page = k.page ∧ g.slot = k.slot) : ((l.take q).drop p).any (fun x => confB g x) = l.any (fun x => confB g x) := by
  rw [Bool.eq_iff_iff, List.any_eq_true, List.any_eq_true]
  constructor
  · rintro ⟨x, hx, hc⟩
    exact ⟨x, List.mem_of_mem_take (List.mem_of_mem_drop hx), hc⟩
  · rintro ⟨x, hx, hc⟩
    refine ⟨x, ?_, hc⟩
    have hcf := confB_iff.1 hc
    have hok := hl.ok x hx
    have e1 := hcf.2.1
    have e2 := hcf.2.2.1
    have := hok.1
    refine mem_part h h2 hx ?_ ?_
    · unfold GLt; simp only; omega
    · unfold GLt; simp only; omega
def HoPost (l : List Gr) (k : Lok) (R : List Rng) (w : World) (e : Ending) (w' : World) : Prop :=
  ∃ v m R', e = .returned v ∧ GrRd v m R' ∧ RdIn w' R' ∧ (∀ r ∈ R', r.1 ∈ R.map (·.1)) ∧ m.length ≤ l.length ∧ (∀ x ∈ m, x ∈ l) ∧ (∀ g : Gr, g.page = k.page ∧ g.slot = k.slot → m.any (fun x => confB g x) = l.any (fun x => confB g x)) ∧ Below w.heap.size w w'
set_option maxHeartbeats 4000000 in
theorem holders_any (k : Lok) (l : List Gr) (v : Value) (R : List Rng) (w : World) (hs : HeldOk l) (hv : GrRd v l R) (hR : RdIn w R) (hl : l.length ≤ 200000) :
    Calls Try.prog 62 #[v, .agg (lkCells k).toArray] w (HoPost l k R w) := by
  have HPl : Hid (∀ tx W, Below w.heap.size w W → Calls Try.prog 56 #[v, .int .i64 tx, .agg (lkCells k).toArray] W (PlPost l (plG tx k) W)) := fun tx W hb => place_any tx k l v R W hs.up hv (hR.below hb) hl
  obtain ⟨a, cap, rfl, hnc, hcm⟩ := GrRd.shape hv
  have h1 := (Hp.start w).put 27 (lkCells k)
  have HS0 : Hid (Hp w [.ob w.heap.size 27 (lkCells k)] (w.alloc (.cells (lkCells k).toArray 27))) := h1
  have HSo := Lib.hid hs
  have HV := Lib.hid hv
  have HR := Lib.hid hR
  have HL := Lib.hid hl
  clear h1 hs hv hR hl
  obtain ⟨fs, hu⟩ := under_lk
  have HUK := Lib.hid hu
  clear hu
  go_enter Try.func62, Try.ntmps62
  go_upto_region 1 with (fail)
  generalize (w.alloc (.cells (lkCells k).toArray 27)) = w1 at *
  go_wp2_with (first | ((with_reducible refine wpList_load_ob 27 (.tmp 3) w.heap.size (lkCells k) 27 HUK.out ?_ ?_ ?_ ?_ ?_); (exact rfl); (exact HS0.out.get 0 rfl); (exact rfl); (exact info_lk); simp only [Act.put, List.setIfInBounds_toArray, List.set_cons_zero, List.set_cons_succ]))
  refine (HPl.out 0 _ HS0.out.old).mono ?_
  rintro e w2 ⟨p, rfl, hp, hb⟩
  have HP := Lib.hid hp
  have HS1 := Lib.hid (HS0.out.calls hb)
  clear hb HS0 hp
  go_wp2_with (first | ((with_reducible refine wpList_load_ob 27 (.tmp 3) w.heap.size (lkCells k) 27 HUK.out ?_ ?_ ?_ ?_ ?_); (exact rfl); (exact HS1.out.get 0 rfl); (exact rfl); (exact info_lk); simp only [Act.put, List.setIfInBounds_toArray, List.set_cons_zero, List.set_cons_succ]))
  refine (HPl.out 1073741825 _ HS1.out.old).mono ?_
  rintro e w3 ⟨q, rfl, hq, hb⟩
  have HQ := Lib.hid hq
  have HS2 := Lib.hid (HS1.out.calls hb)
  have hpq : p ≤ q := pos_le HP.out hq (.inr ⟨rfl, .inr ⟨rfl, by show (0 : Int) < 1073741825; decide⟩⟩)
  have hql : q ≤ l.length := hq.le
  obtain ⟨R1, h2, h3, h4⟩ := gr_take HV.out q hql
  have hlen : (l.take q).length = q := by rw [List.length_take]; omega
  rw [show (Value.slice a q cap) = .slice a (l.take q).length cap from by rw [hlen]] at h2
  obtain ⟨R2, h5, h6, h7⟩ := gr_drop h2 p (by omega)
  rw [hlen] at h5
  have HE : Hid (HoPost l k R w (.returned (.slice (if cap = p then a else Option.map (fun x => Addr.add x (p * 4)) a) (q - p) (cap - p))) w3) := by
    refine ⟨_, (l.take q).drop p, R2, rfl, h5, h6 _ (h3 _ (HR.out.below HS2.out.old)), fun r hr => ?_, by rw [List.length_drop, hlen]; omega, fun x hx => List.mem_of_mem_take (List.mem_of_mem_drop hx), fun g hg => part_any HSo.out HP.out HQ.out g hg, HS2.out.old⟩
    obtain ⟨r2, hr2, e2⟩ := List.mem_map.1 (h7 r hr)
    rw [← e2]
    exact h4 r2 hr2
  have hp0 : (0 : Int) ≤ (p : Int) := by omega
  have hpq' : (p : Int) ≤ (q : Int) := by omega
  have hql' : (q : Int) ≤ (l.length : Int) := by omega
  have hlc : (l.length : Int) ≤ (cap : Int) := by omega
  have hqc : (q : Int) ≤ (cap : Int) := by omega
  have hpc : (p : Int) ≤ (cap : Int) := by omega
  clear hb HS1 hq HPl h2 h3 h4 h5 h6 h7 hlen hpq hql
  by_cases hcp : cap = p
  · have HE2 : Hid (HoPost l k R w (.returned (.slice a (q - p) 0)) w3) := Lib.hid (by have h := HE.out; rw [if_pos hcp, hcp, Nat.sub_self] at h; exact h)
    clear HE
    subst hcp
    go_wp2_with fail
    go_ret
    exact HE2.out
  · have HE2 : Hid (HoPost l k R w (.returned (.slice (Option.map (fun x => Addr.add x (p * 4)) a) (q - p) (cap - p))) w3) := Lib.hid (by have h := HE.out; rw [if_neg hcp] at h; exact h)
    clear HE
    go_wp2_with fail
    go_ret
    exact HE2.out
end Go.Proofs.Ytcnaalbpbalgdaa
/- the program's size and validHeld (locks) -/
namespace Go.Proofs.Ytcnaalbpbalgdaa
open Go.RowKit
open Go.Act renaming put → z0
open List renaming setIfInBounds_toArray → z1, set_cons_zero → z2, set_cons_succ → z3
set_option maxRecDepth 20000
set_option linter.unusedSimpArgs false
set_option linter.unusedVariables false

theorem adj_free {a : List Gr} {x y : Gr} (h : HeldOk a) (hy : a.getLast? = some y) (hu : GLt y x) (hc : ¬ Conf y x) : ∀ z ∈ a, ¬ Conf z x := by
 obtain ⟨b, rfl⟩ : ∃ b, a = b ++ [y] := by
  rw [List.getLast?_eq_some_iff] at hy
  exact hy
 intro z hz hcf
 rcases List.mem_append.1 hz with hz | hz
 ·have h1 := (List.pairwise_append.1 h.up).2.2 z hz y (by simp)
  have h2 := (List.pairwise_append.1 h.free).2.2 z hz y (by simp)
  unfold Conf at h2 hc hcf
  unfold GLt at h1 hu
  omega
 ·obtain rfl : z = y := by simpa using hz
  exact hc hcf
noncomputable def heldB (l : List Gr) : Bool := @decide (HeldOk l) (Classical.propDecidable _)
theorem heldB_iff {l : List Gr} : heldB l = true ↔ HeldOk l := @decide_eq_true_iff _ (Classical.propDecidable _)
theorem heldB_no {l : List Gr} (h : ¬ HeldOk l) : heldB l = false := by
 cases e : heldB l with
 | false => rfl
 | true => exact absurd (heldB_iff.1 e) h
theorem heldB_yes {l : List Gr} (h : HeldOk l) : heldB l = true := heldB_iff.2 h
theorem h_grant {l : List Gr} {i : Nat} {x : Gr} (hx : l[i]? = some x) (h : grOkB x = false) : heldB l = false := heldB_no fun k => by
 have := grOkB_iff.2 (k.ok x (List.mem_of_getElem? hx)); rw [h] at this; cases this
theorem h_less {l : List Gr} {i p : Nat} {x y : Gr} (hx : l[i]? = some x) (hip : i = p + 1) (hy : l[p]? = some y) (h : ¬ GLt y x) : heldB l = false := heldB_no fun k => by
 obtain ⟨h1, rfl⟩ := List.getElem?_eq_some_iff.1 hx
 obtain ⟨h2, rfl⟩ := List.getElem?_eq_some_iff.1 hy
 exact h (List.pairwise_iff_getElem.1 k.up p i h2 h1 (by omega))
theorem h_conf {l : List Gr} {i p : Nat} {x y : Gr} (hx : l[i]? = some x) (hip : i = p + 1) (hy : l[p]? = some y) (h : Conf y x) : heldB l = false := heldB_no fun k => by
 obtain ⟨h1, rfl⟩ := List.getElem?_eq_some_iff.1 hx
 obtain ⟨h2, rfl⟩ := List.getElem?_eq_some_iff.1 hy
 exact (List.pairwise_iff_getElem.1 k.free p i h2 h1 (by omega)) h
abbrev qPk5_0 : Oper := { dst := some 12, op := Op.load 29 (Operand.tmp 4), type := 29, pos := "locks.go:60", after := #[], guard := none }
abbrev qPk5_1 : Oper := { dst := some 13, op := Op.call { callee := Callee.value (Operand.func 40), args := #[Operand.tmp 12], argTypes := #[29] }, type := 4, pos := "locks.go:60", after := #[{ on := 0, ground := Ground.data }], guard := none }
abbrev qPk5_2 : Oper := { dst := some 14, op := Op.unOp UnOp.not 4 (Operand.tmp 13), type := 4, pos := "locks.go:60", after := #[{ on := 1, ground := Ground.data }], guard := none }
abbrev qPk5_3 : Oper := { dst := some 15, op := Op.move (Operand.tmp 14), type := 4, pos := "locks.go:60", after := #[{ on := 2, ground := Ground.data }, { on := 1, ground := Ground.chain }], guard := none }
abbrev qPk5_4 : Oper := { dst := some 16, op := Op.move (Operand.tmp 3), type := 3, pos := "locks.go:60", after := #[{ on := 3, ground := Ground.guard }], guard := some (3, false) }
abbrev qPk5_5 : Oper := { dst := some 17, op := Op.binOp BinOp.gtr 3 (Operand.tmp 16) (Operand.const (Value.int IntKind.i64 0)) 3, type := 4, pos := "locks.go:60", after := #[{ on := 4, ground := Ground.data }, { on := 3, ground := Ground.guard }], guard := some (3, false) }
abbrev qPk5_6 : Oper := { dst := some 18, op := Op.move (Operand.tmp 17), type := 4, pos := "locks.go:60", after := #[{ on := 5, ground := Ground.data }, { on := 3, ground := Ground.chain }, { on := 3, ground := Ground.guard }], guard := some (3, false) }
abbrev qPk5_7 : Oper := { dst := some 19, op := Op.move (Operand.tmp 0), type := 23, pos := "locks.go:60", after := #[{ on := 6, ground := Ground.guard }], guard := some (6, true) }
abbrev qPk5_8 : Oper := { dst := some 20, op := Op.move (Operand.tmp 3), type := 3, pos := "locks.go:60", after := #[{ on := 6, ground := Ground.guard }], guard := some (6, true) }
abbrev qPk5_9 : Oper := { dst := some 21, op := Op.binOp BinOp.sub 3 (Operand.tmp 20) (Operand.const (Value.int IntKind.i64 1)) 3, type := 3, pos := "locks.go:60", after := #[{ on := 8, ground := Ground.data }, { on := 6, ground := Ground.guard }], guard := some (6, true) }
abbrev qPk5_10 : Oper := { dst := some 22, op := Op.indexAddr 23 (Operand.tmp 19) (Operand.tmp 21), type := 0, pos := "locks.go:60", after := #[{ on := 7, ground := Ground.data }, { on := 9, ground := Ground.data }, { on := 6, ground := Ground.guard }], guard := some (6, true) }
abbrev qPk5_11 : Oper := { dst := some 23, op := Op.load 29 (Operand.tmp 22), type := 29, pos := "locks.go:60", after := #[{ on := 10, ground := Ground.data }, { on := 6, ground := Ground.guard }], guard := some (6, true) }
abbrev qPk5_12 : Oper := { dst := some 24, op := Op.load 29 (Operand.tmp 4), type := 29, pos := "locks.go:60", after := #[{ on := 6, ground := Ground.guard }], guard := some (6, true) }
abbrev qPk5_13 : Oper := { dst := some 25, op := Op.call { callee := Callee.value (Operand.func 53), args := #[Operand.tmp 23, Operand.tmp 24], argTypes := #[29, 29] }, type := 3, pos := "locks.go:60", after := #[{ on := 11, ground := Ground.data }, { on := 12, ground := Ground.data }, { on := 6, ground := Ground.chain }, { on := 6, ground := Ground.guard }], guard := some (6, true) }
abbrev qPk5_14 : Oper := { dst := some 26, op := Op.binOp BinOp.geq 3 (Operand.tmp 25) (Operand.const (Value.int IntKind.i64 0)) 3, type := 4, pos := "locks.go:60", after := #[{ on := 13, ground := Ground.data }, { on := 6, ground := Ground.guard }], guard := some (6, true) }
abbrev qPk5_15 : Oper := { dst := some 27, op := Op.move (Operand.tmp 26), type := 4, pos := "locks.go:60", after := #[{ on := 14, ground := Ground.data }, { on := 13, ground := Ground.chain }, { on := 6, ground := Ground.guard }], guard := some (6, true) }
abbrev qPk5_16 : Oper := { dst := some 28, op := Op.move (Operand.tmp 0), type := 23, pos := "locks.go:60", after := #[{ on := 15, ground := Ground.guard }], guard := some (15, false) }
abbrev qPk5_17 : Oper := { dst := some 29, op := Op.move (Operand.tmp 3), type := 3, pos := "locks.go:60", after := #[{ on := 15, ground := Ground.guard }], guard := some (15, false) }
abbrev qPk5_18 : Oper := { dst := some 30, op := Op.binOp BinOp.sub 3 (Operand.tmp 29) (Operand.const (Value.int IntKind.i64 1)) 3, type := 3, pos := "locks.go:60", after := #[{ on := 17, ground := Ground.data }, { on := 15, ground := Ground.guard }], guard := some (15, false) }
abbrev qPk5_19 : Oper := { dst := some 31, op := Op.indexAddr 23 (Operand.tmp 28) (Operand.tmp 30), type := 0, pos := "locks.go:60", after := #[{ on := 16, ground := Ground.data }, { on := 18, ground := Ground.data }, { on := 15, ground := Ground.guard }], guard := some (15, false) }
abbrev qPk5_20 : Oper := { dst := some 32, op := Op.load 29 (Operand.tmp 31), type := 29, pos := "locks.go:60", after := #[{ on := 19, ground := Ground.data }, { on := 15, ground := Ground.guard }], guard := some (15, false) }
abbrev qPk5_21 : Oper := { dst := some 33, op := Op.load 29 (Operand.tmp 4), type := 29, pos := "locks.go:60", after := #[{ on := 15, ground := Ground.guard }], guard := some (15, false) }
abbrev qPk5_22 : Oper := { dst := some 34, op := Op.call { callee := Callee.value (Operand.func 54), args := #[Operand.tmp 32, Operand.tmp 33], argTypes := #[29, 29] }, type := 4, pos := "locks.go:60", after := #[{ on := 20, ground := Ground.data }, { on := 21, ground := Ground.data }, { on := 15, ground := Ground.chain }, { on := 15, ground := Ground.guard }], guard := some (15, false) }
abbrev qPk5_23 : Oper := { dst := some 35, op := Op.pick (Operand.tmp 27) (Operand.const (Value.bool true)) (Operand.tmp 34), type := 4, pos := "locks.go:60", after := #[{ on := 15, ground := Ground.data }, { on := 22, ground := Ground.data }, { on := 6, ground := Ground.guard }], guard := some (6, true) }
abbrev qPk5_24 : Oper := { dst := some 36, op := Op.pick (Operand.tmp 18) (Operand.tmp 35) (Operand.const (Value.bool false)), type := 4, pos := "locks.go:60", after := #[{ on := 6, ground := Ground.data }, { on := 23, ground := Ground.data }, { on := 3, ground := Ground.guard }], guard := some (3, false) }
abbrev qPk5_25 : Oper := { dst := some 37, op := Op.pick (Operand.tmp 15) (Operand.const (Value.bool true)) (Operand.tmp 36), type := 4, pos := "locks.go:60", after := #[{ on := 3, ground := Ground.data }, { on := 24, ground := Ground.data }], guard := none }
set_option maxHeartbeats 4000000 in
theorem size_any {h v : Value} {t : Tb} {R : List Rng} (w : World) (ht : TbRd h v t R) (hg : GoodTb t) :
  Calls Try.prog 32 #[.agg (tbCells h v).toArray] w fun e w' => e = .returned (.int .i64 ((t.held.length : Int) + (t.wait.length : Int))) ∧ Below w.heap.size w w' := by
 obtain ⟨a, cap, rfl, hnc, hcm⟩ := ht.1.shape
 obtain ⟨a2, cap2, rfl, hnc2, hcm2⟩ := ht.2.shape
 have h1 := (Hp.start w).put 25 (tbCells (.slice a t.held.length cap) (.slice a2 t.wait.length cap2))
 have HS0 : Hid (Hp w [.ob w.heap.size 25 (tbCells (.slice a t.held.length cap) (.slice a2 t.wait.length cap2))] (w.alloc (.cells (tbCells (.slice a t.held.length cap) (.slice a2 t.wait.length cap2)).toArray 25))) := h1
 have hfew := hg.few
 have hsum : IntKind.i64.wrap ((t.held.length : Int) + (t.wait.length : Int)) = (t.held.length : Int) + (t.wait.length : Int) := IntWalk.i64_in _ (by omega)
 clear h1 ht hg hfew
 go_enter Try.func32, Try.ntmps32
 go_upto_region 1 with (fail)
 generalize (w.alloc (.cells (tbCells (.slice a t.held.length cap) (.slice a2 t.wait.length cap2)).toArray 25)) = w1 at *
 have b0 : w1.cell? ⟨w.heap.size, 0, none⟩ = some (.slice a t.held.length cap) := HS0.out.at 0 rfl 0 rfl
 have b1 : w1.cell? ⟨w.heap.size, 1, none⟩ = some (.slice a2 t.wait.length cap2) := HS0.out.at 0 rfl 1 rfl
 go_wp2_with fail
 go_ret
 exact ⟨rfl, HS0.out.old⟩
set_option maxHeartbeats 8000000 in
theorem validHeld_any (l : List Gr) (v : Value) (R : List Rng) (w : World) (hv : GrRd v l R) (hR : RdIn w R) (hgo : ∀ g ∈ l, GoodGr g) (hl : l.length ≤ 100000) :
  Calls Try.prog 33 #[v] w fun e w' => e = .returned (.bool (heldB l)) ∧ Below w.heap.size w w' := by
 obtain ⟨a, cap, rfl, hnc, hcm, hg0⟩ := SlRd.open hv hR
 have HGe := Lib.hid hgo
 have HNg : Hid (∀ (i : Nat) (x : Gr), l[i]? = some x → grOkB x = false → heldB l = false) := fun i x => h_grant
 have HNl : Hid (∀ (i p : Nat) (x y : Gr), l[i]? = some x → i = p + 1 → l[p]? = some y → ¬ GLt y x → heldB l = false) := fun i p x y => h_less
 have HNc : Hid (∀ (i p : Nat) (x y : Gr), l[i]? = some x → i = p + 1 → l[p]? = some y → Conf y x → heldB l = false) := fun i p x y => h_conf
 have HYes : Hid (HeldOk l → heldB l = true) := heldB_yes
 have HN : Hid ((l.length : Int) ≤ 100000) := Lib.hid (by omega)
 have HS0 := Lib.hid (Hp.start w)
 clear hv hR hgo hl hnc hcm
 obtain ⟨fs, hu⟩ := under_gr
 have HUG := Lib.hid hu
 clear hu
 generalize heldB l = ok at *
 go_enter Try.func33, Try.ntmps33
 go_wp2_with fail
 go_loopw [7] (fun iv wr => ∃ i : Nat, i ≤ l.length ∧ iv = .int .i64 i ∧ HeldOk (l.take i) ∧ Hp w [] wr) (fun iv _ => l.length - (intOf iv).toNat)
 case atStart => exact ⟨0, by omega, rfl, heldOk_nil, HS0.out⟩
 case round =>
  clear HS0
  obtain ⟨i, hi, rfl, hh, hs⟩ := hrel
  have HY := Lib.hid hs
  have HH := Lib.hid hh
  clear hs hh
  by_cases hlt : i < l.length
  ·obtain ⟨g, off, rfl, hr⟩ := hg0.out (by omega)
   have HRg := Lib.hid hr
   obtain ⟨x, hx⟩ : ∃ x, l[i]? = some x := ⟨_, List.getElem?_eq_getElem hlt⟩
   have HXi := Lib.hid hx
   have HGx := Lib.hid (HGe.out x (List.mem_of_getElem? hx))
   have HGr : Hid (∀ W, Calls Try.prog 40 #[.agg (grCells x).toArray] W fun e w' => e = .returned (.bool (grOkB x)) ∧ Below W.heap.size W w') := fun W => pgrant_any x W
   have HOx := Lib.hid (@grOkB_iff x)
   have hNx := HNg.out i x hx
   have hii : (i : Int) < (l.length : Int) := by omega
   have hi0 : (0 : Int) ≤ (i : Int) := by omega
   have hiw : IntKind.i64.wrap ((i : Int) + 1) = (i : Int) + 1 := IntWalk.i64_in _ (by have := HN.out; omega)
   have HLt := Lib.hid hlt
   clear hr hi hx hg0
   go_upto_region 4 with (first | ((with_reducible refine wpList_load_at 29 (.tmp 10) g ((off + i * 4)) (grCells x) HUG.out ?_ ?_ ?_ ?_ ?_); (exact rfl); (exact (elem_rng (HRg.out _ (HY.out).old) HXi.out)); (exact rfl); (exact info_gr); simp only [Act.put, List.setIfInBounds_toArray, List.set_cons_zero, List.set_cons_succ]) | ((with_reducible refine wpList_alloc_ob 29 (grCells grNil) ?_ ?_); (exact alloc_gr); simp only [Act.put, List.setIfInBounds_toArray, List.set_cons_zero, List.set_cons_succ]) | ((with_reducible refine wpList_store_ob 29 (.tmp 4) (wr.heap.size) (grCells x) (grCells grNil) 29 ?_ ?_ ?_ ?_ ?_ ?_ ?_); (exact rfl); (exact rfl); (exact ((HY.out).put 29 (grCells grNil)).get 0 rfl); (exact info_gr); (exact rfl); (exact (oneCell_gr _)); skip))
   have HS21 : Hid (Hp w [.ob (wr.heap.size) 29 (grCells x)] ((wr.alloc (.cells (grCells grNil).toArray 29)).setRow (wr.heap.size) (grCells x).toArray)) := ((HY.out).put 29 (grCells grNil)).row 0 rfl (grCells x)
   clear HY
   generalize ((wr.alloc (.cells (grCells grNil).toArray 29)).setRow (wr.heap.size) (grCells x).toArray) = w21 at *
   generalize wr.heap.size = B21 at *
   generalize grOkB x = gb at *
   cases gb
   case false =>
    have HX := Lib.hid (hNx rfl)
    clear hNx HOx
    refine wp_region_held_drew (S := fun w' => w'.rangeAt B21 0 (grCells x)) (by kernel_rfl) ((fun j v hv => by rw [Nat.zero_add]; exact ((HS21.out).drew).at 0 rfl j hv)) (fun hHeld => ?_)
    refine tk 0 qPk5_0 (some 12) (yieldsIf_load_mid (by rfl) 29 (.tmp 4) rfl B21 (0) rfl (grCells x) _ (fun _ h => h) HUG.out rfl (info_gr)) hHeld ?_
    try simp only [z0, z1, z2, z3]
    refine tn 1 qPk5_1 (fun K hK => ?_)
    go_simp
    go_wp2_with (go_at_call 40; refine (HGr.out _).mono ?_; rintro e w61 ⟨rfl, hb⟩)
    have HS61 := Lib.hid (((HS21.out).drew).calls hb)
    refine hK.out _ _ ((fun j v hv => by rw [Nat.zero_add]; exact (HS61.out).at 0 rfl j hv)) (fun hHeld => ?_)
    clear hK K hb
    try simp only [z0, z1, z2, z3]
    refine tk 2 qPk5_2 (some 14) (v := .bool true) (Or.inl ⟨by rfl, ?q102h⟩) hHeld ?q102r
    case q102h => (intro wq hSw; clear hSw; go_simp; try with_reducible rfl)
    try simp only [z0, z1, z2, z3]
    refine tk 3 qPk5_3 (some 15) (v := .bool true) (Or.inl ⟨by rfl, ?q103h⟩) hHeld ?q103r
    case q103h => (intro wq hSw; clear hSw; go_simp; try with_reducible rfl)
    try simp only [z0, z1, z2, z3]
    refine tk 4 qPk5_4 (some 16) (v := undef) (Or.inr ⟨by rfl, rfl⟩) hHeld ?_
    try simp only [z0, z1, z2, z3]
    refine tk 5 qPk5_5 (some 17) (v := undef) (Or.inr ⟨by rfl, rfl⟩) hHeld ?_
    try simp only [z0, z1, z2, z3]
    refine tk 6 qPk5_6 (some 18) (v := undef) (Or.inr ⟨by rfl, rfl⟩) hHeld ?_
    try simp only [z0, z1, z2, z3]
    refine tk 7 qPk5_7 (some 19) (v := undef) (Or.inr ⟨by rfl, rfl⟩) hHeld ?_
    try simp only [z0, z1, z2, z3]
    refine tk 8 qPk5_8 (some 20) (v := undef) (Or.inr ⟨by rfl, rfl⟩) hHeld ?_
    try simp only [z0, z1, z2, z3]
    refine tk 9 qPk5_9 (some 21) (v := undef) (Or.inr ⟨by rfl, rfl⟩) hHeld ?_
    try simp only [z0, z1, z2, z3]
    refine tk 10 qPk5_10 (some 22) (v := undef) (Or.inr ⟨by rfl, rfl⟩) hHeld ?_
    try simp only [z0, z1, z2, z3]
    refine tk 11 qPk5_11 (some 23) (v := undef) (Or.inr ⟨by rfl, rfl⟩) hHeld ?_
    try simp only [z0, z1, z2, z3]
    refine tk 12 qPk5_12 (some 24) (v := undef) (Or.inr ⟨by rfl, rfl⟩) hHeld ?_
    try simp only [z0, z1, z2, z3]
    refine tn 13 qPk5_13 (fun K hK => ?_)
    rw [if_neg (by exact Bool.false_ne_true)]
    have HS62 := HS61
    refine hK.out _ _ ((fun j v hv => by rw [Nat.zero_add]; exact (HS62.out).at 0 rfl j hv)) (fun hHeld => ?_)
    clear hK K
    try simp only [z0, z1, z2, z3]
    refine tk 14 qPk5_14 (some 26) (v := undef) (Or.inr ⟨by rfl, rfl⟩) hHeld ?_
    try simp only [z0, z1, z2, z3]
    refine tk 15 qPk5_15 (some 27) (v := undef) (Or.inr ⟨by rfl, rfl⟩) hHeld ?_
    try simp only [z0, z1, z2, z3]
    refine tk 16 qPk5_16 (some 28) (v := undef) (Or.inr ⟨by rfl, rfl⟩) hHeld ?_
    try simp only [z0, z1, z2, z3]
    refine tk 17 qPk5_17 (some 29) (v := undef) (Or.inr ⟨by rfl, rfl⟩) hHeld ?_
    try simp only [z0, z1, z2, z3]
    refine tk 18 qPk5_18 (some 30) (v := undef) (Or.inr ⟨by rfl, rfl⟩) hHeld ?_
    try simp only [z0, z1, z2, z3]
    refine tk 19 qPk5_19 (some 31) (v := undef) (Or.inr ⟨by rfl, rfl⟩) hHeld ?_
    try simp only [z0, z1, z2, z3]
    refine tk 20 qPk5_20 (some 32) (v := undef) (Or.inr ⟨by rfl, rfl⟩) hHeld ?_
    try simp only [z0, z1, z2, z3]
    refine tk 21 qPk5_21 (some 33) (v := undef) (Or.inr ⟨by rfl, rfl⟩) hHeld ?_
    try simp only [z0, z1, z2, z3]
    refine tn 22 qPk5_22 (fun K hK => ?_)
    rw [if_neg (by exact Bool.false_ne_true)]
    have HS63 := HS62
    refine hK.out _ _ ((fun j v hv => by rw [Nat.zero_add]; exact (HS63.out).at 0 rfl j hv)) (fun hHeld => ?_)
    clear hK K
    try simp only [z0, z1, z2, z3]
    refine tk 23 qPk5_23 (some 35) (v := undef) (Or.inr ⟨by rfl, rfl⟩) hHeld ?_
    try simp only [z0, z1, z2, z3]
    refine tk 24 qPk5_24 (some 36) (v := undef) (Or.inr ⟨by rfl, rfl⟩) hHeld ?_
    try simp only [z0, z1, z2, z3]
    refine tk 25 qPk5_25 (some 37) (v := ?q123v) (Or.inl ⟨by rfl, ?q123h⟩) hHeld ?q123r
    case q123h => (intro wq hSw; clear hSw; go_simp; try with_reducible rfl)
    try simp only [z0, z1, z2, z3]
    refine wpAnyH_done (by kernel_rfl) ?_ _
    clear hHeld
    go_wp2_with fail
    go_ret
    exact ⟨by rw [HX.out]; rfl, (HS63.out).old⟩
   case true =>
    have HOk1 := Lib.hid (HOx.out.1 rfl)
    clear hNx HOx
    by_cases hi1 : (0 : Int) < (i : Int)
    ·obtain ⟨p, hip⟩ : ∃ p, i = p + 1 := ⟨i - 1, by omega⟩
     have HIp := Lib.hid hip
     have hpw : IntKind.i64.wrap ((i : Int) - 1) = (p : Int) := by rw [show (i : Int) - 1 = (p : Int) by omega]; exact IntWalk.i64_in _ (by have := HN.out; omega)
     have hpi : (p : Int) < (l.length : Int) := by omega
     have hp0 : (0 : Int) ≤ (p : Int) := by omega
     obtain ⟨y, hy⟩ : ∃ y, l[p]? = some y := ⟨_, List.getElem?_eq_getElem (by omega)⟩
     have HYp := Lib.hid hy
     have HGy := Lib.hid (HGe.out y (List.mem_of_getElem? hy))
     have HOr : Hid (∀ W, Calls Try.prog 53 #[.agg (grCells y).toArray, .agg (grCells x).toArray] W fun e w' => e = .returned (.int .i64 (ordI y x)) ∧ Below W.heap.size W w') := fun W => order_any y x W
     have HCf : Hid (∀ W, Calls Try.prog 54 #[.agg (grCells y).toArray, .agg (grCells x).toArray] W fun e w' => e = .returned (.bool (confB y x)) ∧ Below W.heap.size W w') := fun W => pconflict_any y x W HGy.out HGx.out
     have hNx := HNl.out i p x y HXi.out hip hy
     have hNy := HNc.out i p x y HXi.out hip hy
     have hneg := @ordI_neg y x
     have hcf := @confB_iff y x
     have dp : decide ((0 : Int) < (i : Int)) = true := decide_eq_true hi1
     have hi2 : 0 < i := by omega
     clear hip hy hi1
     generalize ordI y x = ov at *
     generalize confB y x = cf at *
     by_cases ho : ov < 0
     ·have HG := Lib.hid (hneg.1 ho)
      have dov : decide (0 ≤ ov) = false := decide_eq_false (by omega)
      have HU : Hid (∀ z, (l.take i).getLast? = some z → GLt z x) := fun z hz => by
       rw [last_take HIp.out HYp.out] at hz
       rw [← Option.some.inj hz]; exact HG.out
      clear hNx hneg ho
      cases cf
      case true =>
       have HX := Lib.hid (hNy (hcf.1 rfl))
       clear hNy hcf
       refine wp_region_held_drew (S := fun w' => w'.rangeAt B21 0 (grCells x) ∧ w'.rangeAt g (off + p * 4) (grCells y)) (by kernel_rfl) (⟨(fun j v hv => by rw [Nat.zero_add]; exact ((HS21.out).drew).at 0 rfl j hv), (elem_rng (HRg.out _ ((HS21.out).drew).old) HYp.out)⟩) (fun hHeld => ?_)
       refine tk 0 qPk5_0 (some 12) (yieldsIf_load_mid (by rfl) 29 (.tmp 4) rfl B21 (0) rfl (grCells x) _ (fun _ h => h.1) HUG.out rfl (info_gr)) hHeld ?_
       try simp only [z0, z1, z2, z3]
       refine tn 1 qPk5_1 (fun K hK => ?_)
       go_simp
       go_wp2_with (go_at_call 40; refine (HGr.out _).mono ?_; rintro e w61 ⟨rfl, hb⟩)
       have HS61 := Lib.hid (((HS21.out).drew).calls hb)
       refine hK.out _ _ (⟨(fun j v hv => by rw [Nat.zero_add]; exact (HS61.out).at 0 rfl j hv), (elem_rng (HRg.out _ (HS61.out).old) HYp.out)⟩) (fun hHeld => ?_)
       clear hK K hb
       try simp only [z0, z1, z2, z3]
       refine tk 2 qPk5_2 (some 14) (v := .bool false) (Or.inl ⟨by rfl, ?q402h⟩) hHeld ?q402r
       case q402h => (intro wq hSw; clear hSw; go_simp; try with_reducible rfl)
       try simp only [z0, z1, z2, z3]
       refine tk 3 qPk5_3 (some 15) (v := ?q403v) (Or.inl ⟨by rfl, ?q403h⟩) hHeld ?q403r
       case q403h => (intro wq hSw; clear hSw; go_simp; try with_reducible rfl)
       try simp only [z0, z1, z2, z3]
       refine tk 4 qPk5_4 (some 16) (v := ?q404v) (Or.inl ⟨by rfl, ?q404h⟩) hHeld ?q404r
       case q404h => (intro wq hSw; clear hSw; go_simp; try with_reducible rfl)
       try simp only [z0, z1, z2, z3]
       refine tk 5 qPk5_5 (some 17) (v := .bool true) (Or.inl ⟨by rfl, ?q405h⟩) hHeld ?q405r
       case q405h => (intro wq hSw; clear hSw; go_simp; try with_reducible rfl)
       try simp only [z0, z1, z2, z3]
       refine tk 6 qPk5_6 (some 18) (v := ?q406v) (Or.inl ⟨by rfl, ?q406h⟩) hHeld ?q406r
       case q406h => (intro wq hSw; clear hSw; go_simp; try with_reducible rfl)
       try simp only [z0, z1, z2, z3]
       refine tk 7 qPk5_7 (some 19) (v := ?q407v) (Or.inl ⟨by rfl, ?q407h⟩) hHeld ?q407r
       case q407h => (intro wq hSw; clear hSw; go_simp; try with_reducible rfl)
       try simp only [z0, z1, z2, z3]
       refine tk 8 qPk5_8 (some 20) (v := ?q408v) (Or.inl ⟨by rfl, ?q408h⟩) hHeld ?q408r
       case q408h => (intro wq hSw; clear hSw; go_simp; try with_reducible rfl)
       try simp only [z0, z1, z2, z3]
       refine tk 9 qPk5_9 (some 21) (v := ?q409v) (Or.inl ⟨by rfl, ?q409h⟩) hHeld ?q409r
       case q409h => (intro wq hSw; clear hSw; go_simp; try with_reducible rfl)
       try simp only [z0, z1, z2, z3]
       refine tk 10 qPk5_10 (some 22) (v := ?q410v) (Or.inl ⟨by rfl, ?q410h⟩) hHeld ?q410r
       case q410h => (intro wq hSw; clear hSw; go_simp; try with_reducible rfl)
       try simp only [z0, z1, z2, z3]
       refine tk 11 qPk5_11 (some 23) (yieldsIf_load_mid (by rfl) 29 (.tmp 22) rfl g (off + p * 4) rfl (grCells y) _ (fun _ h => h.2) HUG.out rfl (info_gr)) hHeld ?_
       try simp only [z0, z1, z2, z3]
       refine tk 12 qPk5_12 (some 24) (yieldsIf_load_mid (by rfl) 29 (.tmp 4) rfl B21 (0) rfl (grCells x) _ (fun _ h => h.1) HUG.out rfl (info_gr)) hHeld ?_
       try simp only [z0, z1, z2, z3]
       refine tn 13 qPk5_13 (fun K hK => ?_)
       go_simp
       go_wp2_with (go_at_call 53; refine (HOr.out _).mono ?_; rintro e w62 ⟨rfl, hb⟩)
       have HS62 := Lib.hid ((HS61.out).calls hb)
       refine hK.out _ _ (⟨(fun j v hv => by rw [Nat.zero_add]; exact (HS62.out).at 0 rfl j hv), (elem_rng (HRg.out _ (HS62.out).old) HYp.out)⟩) (fun hHeld => ?_)
       clear hK K hb
       try simp only [z0, z1, z2, z3]
       refine tk 14 qPk5_14 (some 26) (v := .bool false) (Or.inl ⟨by rfl, ?q413h⟩) hHeld ?q413r
       case q413h => (intro wq hSw; clear hSw; go_simp; try with_reducible rfl)
       try simp only [z0, z1, z2, z3]
       refine tk 15 qPk5_15 (some 27) (v := ?q414v) (Or.inl ⟨by rfl, ?q414h⟩) hHeld ?q414r
       case q414h => (intro wq hSw; clear hSw; go_simp; try with_reducible rfl)
       try simp only [z0, z1, z2, z3]
       refine tk 16 qPk5_16 (some 28) (v := ?q415v) (Or.inl ⟨by rfl, ?q415h⟩) hHeld ?q415r
       case q415h => (intro wq hSw; clear hSw; go_simp; try with_reducible rfl)
       try simp only [z0, z1, z2, z3]
       refine tk 17 qPk5_17 (some 29) (v := ?q416v) (Or.inl ⟨by rfl, ?q416h⟩) hHeld ?q416r
       case q416h => (intro wq hSw; clear hSw; go_simp; try with_reducible rfl)
       try simp only [z0, z1, z2, z3]
       refine tk 18 qPk5_18 (some 30) (v := ?q417v) (Or.inl ⟨by rfl, ?q417h⟩) hHeld ?q417r
       case q417h => (intro wq hSw; clear hSw; go_simp; try with_reducible rfl)
       try simp only [z0, z1, z2, z3]
       refine tk 19 qPk5_19 (some 31) (v := ?q418v) (Or.inl ⟨by rfl, ?q418h⟩) hHeld ?q418r
       case q418h => (intro wq hSw; clear hSw; go_simp; try with_reducible rfl)
       try simp only [z0, z1, z2, z3]
       refine tk 20 qPk5_20 (some 32) (yieldsIf_load_mid (by rfl) 29 (.tmp 31) rfl g (off + p * 4) rfl (grCells y) _ (fun _ h => h.2) HUG.out rfl (info_gr)) hHeld ?_
       try simp only [z0, z1, z2, z3]
       refine tk 21 qPk5_21 (some 33) (yieldsIf_load_mid (by rfl) 29 (.tmp 4) rfl B21 (0) rfl (grCells x) _ (fun _ h => h.1) HUG.out rfl (info_gr)) hHeld ?_
       try simp only [z0, z1, z2, z3]
       refine tn 22 qPk5_22 (fun K hK => ?_)
       go_simp
       go_wp2_with (go_at_call 54; refine (HCf.out _).mono ?_; rintro e w63 ⟨rfl, hb⟩)
       have HS63 := Lib.hid ((HS62.out).calls hb)
       refine hK.out _ _ (⟨(fun j v hv => by rw [Nat.zero_add]; exact (HS63.out).at 0 rfl j hv), (elem_rng (HRg.out _ (HS63.out).old) HYp.out)⟩) (fun hHeld => ?_)
       clear hK K hb
       try simp only [z0, z1, z2, z3]
       refine tk 23 qPk5_23 (some 35) (v := ?q421v) (Or.inl ⟨by rfl, ?q421h⟩) hHeld ?q421r
       case q421h => (intro wq hSw; clear hSw; go_simp; try with_reducible rfl)
       try simp only [z0, z1, z2, z3]
       refine tk 24 qPk5_24 (some 36) (v := ?q422v) (Or.inl ⟨by rfl, ?q422h⟩) hHeld ?q422r
       case q422h => (intro wq hSw; clear hSw; go_simp; try with_reducible rfl)
       try simp only [z0, z1, z2, z3]
       refine tk 25 qPk5_25 (some 37) (v := ?q423v) (Or.inl ⟨by rfl, ?q423h⟩) hHeld ?q423r
       case q423h => (intro wq hSw; clear hSw; go_simp; try with_reducible rfl)
       try simp only [z0, z1, z2, z3]
       refine wpAnyH_done (by kernel_rfl) ?_ _
       clear hHeld
       go_wp2_with fail
       go_ret
       exact ⟨by rw [HX.out]; rfl, (HS63.out).old⟩
      case false =>
       have HA : Hid (∀ z ∈ l.take i, ¬ Conf z x) := adj_free HH.out (last_take HIp.out HYp.out) HG.out (fun h => by have := hcf.2 h; cases this)
       clear hNy hcf
       refine wp_region_held_drew (S := fun w' => w'.rangeAt B21 0 (grCells x) ∧ w'.rangeAt g (off + p * 4) (grCells y)) (by kernel_rfl) (⟨(fun j v hv => by rw [Nat.zero_add]; exact ((HS21.out).drew).at 0 rfl j hv), (elem_rng (HRg.out _ ((HS21.out).drew).old) HYp.out)⟩) (fun hHeld => ?_)
       refine tk 0 qPk5_0 (some 12) (yieldsIf_load_mid (by rfl) 29 (.tmp 4) rfl B21 (0) rfl (grCells x) _ (fun _ h => h.1) HUG.out rfl (info_gr)) hHeld ?_
       try simp only [z0, z1, z2, z3]
       refine tn 1 qPk5_1 (fun K hK => ?_)
       go_simp
       go_wp2_with (go_at_call 40; refine (HGr.out _).mono ?_; rintro e w61 ⟨rfl, hb⟩)
       have HS61 := Lib.hid (((HS21.out).drew).calls hb)
       refine hK.out _ _ (⟨(fun j v hv => by rw [Nat.zero_add]; exact (HS61.out).at 0 rfl j hv), (elem_rng (HRg.out _ (HS61.out).old) HYp.out)⟩) (fun hHeld => ?_)
       clear hK K hb
       try simp only [z0, z1, z2, z3]
       refine tk 2 qPk5_2 (some 14) (v := .bool false) (Or.inl ⟨by rfl, ?q502h⟩) hHeld ?q502r
       case q502h => (intro wq hSw; clear hSw; go_simp; try with_reducible rfl)
       try simp only [z0, z1, z2, z3]
       refine tk 3 qPk5_3 (some 15) (v := ?q503v) (Or.inl ⟨by rfl, ?q503h⟩) hHeld ?q503r
       case q503h => (intro wq hSw; clear hSw; go_simp; try with_reducible rfl)
       try simp only [z0, z1, z2, z3]
       refine tk 4 qPk5_4 (some 16) (v := ?q504v) (Or.inl ⟨by rfl, ?q504h⟩) hHeld ?q504r
       case q504h => (intro wq hSw; clear hSw; go_simp; try with_reducible rfl)
       try simp only [z0, z1, z2, z3]
       refine tk 5 qPk5_5 (some 17) (v := .bool true) (Or.inl ⟨by rfl, ?q505h⟩) hHeld ?q505r
       case q505h => (intro wq hSw; clear hSw; go_simp; try with_reducible rfl)
       try simp only [z0, z1, z2, z3]
       refine tk 6 qPk5_6 (some 18) (v := ?q506v) (Or.inl ⟨by rfl, ?q506h⟩) hHeld ?q506r
       case q506h => (intro wq hSw; clear hSw; go_simp; try with_reducible rfl)
       try simp only [z0, z1, z2, z3]
       refine tk 7 qPk5_7 (some 19) (v := ?q507v) (Or.inl ⟨by rfl, ?q507h⟩) hHeld ?q507r
       case q507h => (intro wq hSw; clear hSw; go_simp; try with_reducible rfl)
       try simp only [z0, z1, z2, z3]
       refine tk 8 qPk5_8 (some 20) (v := ?q508v) (Or.inl ⟨by rfl, ?q508h⟩) hHeld ?q508r
       case q508h => (intro wq hSw; clear hSw; go_simp; try with_reducible rfl)
       try simp only [z0, z1, z2, z3]
       refine tk 9 qPk5_9 (some 21) (v := ?q509v) (Or.inl ⟨by rfl, ?q509h⟩) hHeld ?q509r
       case q509h => (intro wq hSw; clear hSw; go_simp; try with_reducible rfl)
       try simp only [z0, z1, z2, z3]
       refine tk 10 qPk5_10 (some 22) (v := ?q510v) (Or.inl ⟨by rfl, ?q510h⟩) hHeld ?q510r
       case q510h => (intro wq hSw; clear hSw; go_simp; try with_reducible rfl)
       try simp only [z0, z1, z2, z3]
       refine tk 11 qPk5_11 (some 23) (yieldsIf_load_mid (by rfl) 29 (.tmp 22) rfl g (off + p * 4) rfl (grCells y) _ (fun _ h => h.2) HUG.out rfl (info_gr)) hHeld ?_
       try simp only [z0, z1, z2, z3]
       refine tk 12 qPk5_12 (some 24) (yieldsIf_load_mid (by rfl) 29 (.tmp 4) rfl B21 (0) rfl (grCells x) _ (fun _ h => h.1) HUG.out rfl (info_gr)) hHeld ?_
       try simp only [z0, z1, z2, z3]
       refine tn 13 qPk5_13 (fun K hK => ?_)
       go_simp
       go_wp2_with (go_at_call 53; refine (HOr.out _).mono ?_; rintro e w62 ⟨rfl, hb⟩)
       have HS62 := Lib.hid ((HS61.out).calls hb)
       refine hK.out _ _ (⟨(fun j v hv => by rw [Nat.zero_add]; exact (HS62.out).at 0 rfl j hv), (elem_rng (HRg.out _ (HS62.out).old) HYp.out)⟩) (fun hHeld => ?_)
       clear hK K hb
       try simp only [z0, z1, z2, z3]
       refine tk 14 qPk5_14 (some 26) (v := .bool false) (Or.inl ⟨by rfl, ?q513h⟩) hHeld ?q513r
       case q513h => (intro wq hSw; clear hSw; go_simp; try with_reducible rfl)
       try simp only [z0, z1, z2, z3]
       refine tk 15 qPk5_15 (some 27) (v := ?q514v) (Or.inl ⟨by rfl, ?q514h⟩) hHeld ?q514r
       case q514h => (intro wq hSw; clear hSw; go_simp; try with_reducible rfl)
       try simp only [z0, z1, z2, z3]
       refine tk 16 qPk5_16 (some 28) (v := ?q515v) (Or.inl ⟨by rfl, ?q515h⟩) hHeld ?q515r
       case q515h => (intro wq hSw; clear hSw; go_simp; try with_reducible rfl)
       try simp only [z0, z1, z2, z3]
       refine tk 17 qPk5_17 (some 29) (v := ?q516v) (Or.inl ⟨by rfl, ?q516h⟩) hHeld ?q516r
       case q516h => (intro wq hSw; clear hSw; go_simp; try with_reducible rfl)
       try simp only [z0, z1, z2, z3]
       refine tk 18 qPk5_18 (some 30) (v := ?q517v) (Or.inl ⟨by rfl, ?q517h⟩) hHeld ?q517r
       case q517h => (intro wq hSw; clear hSw; go_simp; try with_reducible rfl)
       try simp only [z0, z1, z2, z3]
       refine tk 19 qPk5_19 (some 31) (v := ?q518v) (Or.inl ⟨by rfl, ?q518h⟩) hHeld ?q518r
       case q518h => (intro wq hSw; clear hSw; go_simp; try with_reducible rfl)
       try simp only [z0, z1, z2, z3]
       refine tk 20 qPk5_20 (some 32) (yieldsIf_load_mid (by rfl) 29 (.tmp 31) rfl g (off + p * 4) rfl (grCells y) _ (fun _ h => h.2) HUG.out rfl (info_gr)) hHeld ?_
       try simp only [z0, z1, z2, z3]
       refine tk 21 qPk5_21 (some 33) (yieldsIf_load_mid (by rfl) 29 (.tmp 4) rfl B21 (0) rfl (grCells x) _ (fun _ h => h.1) HUG.out rfl (info_gr)) hHeld ?_
       try simp only [z0, z1, z2, z3]
       refine tn 22 qPk5_22 (fun K hK => ?_)
       go_simp
       go_wp2_with (go_at_call 54; refine (HCf.out _).mono ?_; rintro e w63 ⟨rfl, hb⟩)
       have HS63 := Lib.hid ((HS62.out).calls hb)
       refine hK.out _ _ (⟨(fun j v hv => by rw [Nat.zero_add]; exact (HS63.out).at 0 rfl j hv), (elem_rng (HRg.out _ (HS63.out).old) HYp.out)⟩) (fun hHeld => ?_)
       clear hK K hb
       try simp only [z0, z1, z2, z3]
       refine tk 23 qPk5_23 (some 35) (v := ?q521v) (Or.inl ⟨by rfl, ?q521h⟩) hHeld ?q521r
       case q521h => (intro wq hSw; clear hSw; go_simp; try with_reducible rfl)
       try simp only [z0, z1, z2, z3]
       refine tk 24 qPk5_24 (some 36) (v := ?q522v) (Or.inl ⟨by rfl, ?q522h⟩) hHeld ?q522r
       case q522h => (intro wq hSw; clear hSw; go_simp; try with_reducible rfl)
       try simp only [z0, z1, z2, z3]
       refine tk 25 qPk5_25 (some 37) (v := ?q523v) (Or.inl ⟨by rfl, ?q523h⟩) hHeld ?q523r
       case q523h => (intro wq hSw; clear hSw; go_simp; try with_reducible rfl)
       try simp only [z0, z1, z2, z3]
       refine wpAnyH_done (by kernel_rfl) ?_ _
       clear hHeld
       go_wp2_with fail
       go_roundw
       case rel => exact ⟨i + 1, HLt.out, by go_num, by rw [lk_take_snoc HXi.out]; exact held_snoc HH.out HOk1.out HU.out HA.out, HS63.out.forget (L := [])⟩
       case measure => simp [intOf]; try (have := HLt.out; omega)
     ·have HX := Lib.hid (hNx (fun h => ho (hneg.2 h)))
      have dov : decide (0 ≤ ov) = true := decide_eq_true (by omega)
      clear hNx hNy hneg hcf ho
      refine wp_region_held_drew (S := fun w' => w'.rangeAt B21 0 (grCells x) ∧ w'.rangeAt g (off + p * 4) (grCells y)) (by kernel_rfl) (⟨(fun j v hv => by rw [Nat.zero_add]; exact ((HS21.out).drew).at 0 rfl j hv), (elem_rng (HRg.out _ ((HS21.out).drew).old) HYp.out)⟩) (fun hHeld => ?_)
      refine tk 0 qPk5_0 (some 12) (yieldsIf_load_mid (by rfl) 29 (.tmp 4) rfl B21 (0) rfl (grCells x) _ (fun _ h => h.1) HUG.out rfl (info_gr)) hHeld ?_
      try simp only [z0, z1, z2, z3]
      refine tn 1 qPk5_1 (fun K hK => ?_)
      go_simp
      go_wp2_with (go_at_call 40; refine (HGr.out _).mono ?_; rintro e w61 ⟨rfl, hb⟩)
      have HS61 := Lib.hid (((HS21.out).drew).calls hb)
      refine hK.out _ _ (⟨(fun j v hv => by rw [Nat.zero_add]; exact (HS61.out).at 0 rfl j hv), (elem_rng (HRg.out _ (HS61.out).old) HYp.out)⟩) (fun hHeld => ?_)
      clear hK K hb
      try simp only [z0, z1, z2, z3]
      refine tk 2 qPk5_2 (some 14) (v := .bool false) (Or.inl ⟨by rfl, ?q302h⟩) hHeld ?q302r
      case q302h => (intro wq hSw; clear hSw; go_simp; try with_reducible rfl)
      try simp only [z0, z1, z2, z3]
      refine tk 3 qPk5_3 (some 15) (v := ?q303v) (Or.inl ⟨by rfl, ?q303h⟩) hHeld ?q303r
      case q303h => (intro wq hSw; clear hSw; go_simp; try with_reducible rfl)
      try simp only [z0, z1, z2, z3]
      refine tk 4 qPk5_4 (some 16) (v := ?q304v) (Or.inl ⟨by rfl, ?q304h⟩) hHeld ?q304r
      case q304h => (intro wq hSw; clear hSw; go_simp; try with_reducible rfl)
      try simp only [z0, z1, z2, z3]
      refine tk 5 qPk5_5 (some 17) (v := .bool true) (Or.inl ⟨by rfl, ?q305h⟩) hHeld ?q305r
      case q305h => (intro wq hSw; clear hSw; go_simp; try with_reducible rfl)
      try simp only [z0, z1, z2, z3]
      refine tk 6 qPk5_6 (some 18) (v := ?q306v) (Or.inl ⟨by rfl, ?q306h⟩) hHeld ?q306r
      case q306h => (intro wq hSw; clear hSw; go_simp; try with_reducible rfl)
      try simp only [z0, z1, z2, z3]
      refine tk 7 qPk5_7 (some 19) (v := ?q307v) (Or.inl ⟨by rfl, ?q307h⟩) hHeld ?q307r
      case q307h => (intro wq hSw; clear hSw; go_simp; try with_reducible rfl)
      try simp only [z0, z1, z2, z3]
      refine tk 8 qPk5_8 (some 20) (v := ?q308v) (Or.inl ⟨by rfl, ?q308h⟩) hHeld ?q308r
      case q308h => (intro wq hSw; clear hSw; go_simp; try with_reducible rfl)
      try simp only [z0, z1, z2, z3]
      refine tk 9 qPk5_9 (some 21) (v := ?q309v) (Or.inl ⟨by rfl, ?q309h⟩) hHeld ?q309r
      case q309h => (intro wq hSw; clear hSw; go_simp; try with_reducible rfl)
      try simp only [z0, z1, z2, z3]
      refine tk 10 qPk5_10 (some 22) (v := ?q310v) (Or.inl ⟨by rfl, ?q310h⟩) hHeld ?q310r
      case q310h => (intro wq hSw; clear hSw; go_simp; try with_reducible rfl)
      try simp only [z0, z1, z2, z3]
      refine tk 11 qPk5_11 (some 23) (yieldsIf_load_mid (by rfl) 29 (.tmp 22) rfl g (off + p * 4) rfl (grCells y) _ (fun _ h => h.2) HUG.out rfl (info_gr)) hHeld ?_
      try simp only [z0, z1, z2, z3]
      refine tk 12 qPk5_12 (some 24) (yieldsIf_load_mid (by rfl) 29 (.tmp 4) rfl B21 (0) rfl (grCells x) _ (fun _ h => h.1) HUG.out rfl (info_gr)) hHeld ?_
      try simp only [z0, z1, z2, z3]
      refine tn 13 qPk5_13 (fun K hK => ?_)
      go_simp
      go_wp2_with (go_at_call 53; refine (HOr.out _).mono ?_; rintro e w62 ⟨rfl, hb⟩)
      have HS62 := Lib.hid ((HS61.out).calls hb)
      refine hK.out _ _ (⟨(fun j v hv => by rw [Nat.zero_add]; exact (HS62.out).at 0 rfl j hv), (elem_rng (HRg.out _ (HS62.out).old) HYp.out)⟩) (fun hHeld => ?_)
      clear hK K hb
      try simp only [z0, z1, z2, z3]
      refine tk 14 qPk5_14 (some 26) (v := .bool true) (Or.inl ⟨by rfl, ?q313h⟩) hHeld ?q313r
      case q313h => (intro wq hSw; clear hSw; go_simp; try with_reducible rfl)
      try simp only [z0, z1, z2, z3]
      refine tk 15 qPk5_15 (some 27) (v := ?q314v) (Or.inl ⟨by rfl, ?q314h⟩) hHeld ?q314r
      case q314h => (intro wq hSw; clear hSw; go_simp; try with_reducible rfl)
      try simp only [z0, z1, z2, z3]
      refine tk 16 qPk5_16 (some 28) (v := undef) (Or.inr ⟨by rfl, rfl⟩) hHeld ?_
      try simp only [z0, z1, z2, z3]
      refine tk 17 qPk5_17 (some 29) (v := undef) (Or.inr ⟨by rfl, rfl⟩) hHeld ?_
      try simp only [z0, z1, z2, z3]
      refine tk 18 qPk5_18 (some 30) (v := undef) (Or.inr ⟨by rfl, rfl⟩) hHeld ?_
      try simp only [z0, z1, z2, z3]
      refine tk 19 qPk5_19 (some 31) (v := undef) (Or.inr ⟨by rfl, rfl⟩) hHeld ?_
      try simp only [z0, z1, z2, z3]
      refine tk 20 qPk5_20 (some 32) (v := undef) (Or.inr ⟨by rfl, rfl⟩) hHeld ?_
      try simp only [z0, z1, z2, z3]
      refine tk 21 qPk5_21 (some 33) (v := undef) (Or.inr ⟨by rfl, rfl⟩) hHeld ?_
      try simp only [z0, z1, z2, z3]
      refine tn 22 qPk5_22 (fun K hK => ?_)
      rw [if_neg (by exact Bool.false_ne_true)]
      have HS63 := HS62
      refine hK.out _ _ (⟨(fun j v hv => by rw [Nat.zero_add]; exact (HS63.out).at 0 rfl j hv), (elem_rng (HRg.out _ (HS63.out).old) HYp.out)⟩) (fun hHeld => ?_)
      clear hK K
      try simp only [z0, z1, z2, z3]
      refine tk 23 qPk5_23 (some 35) (v := ?q321v) (Or.inl ⟨by rfl, ?q321h⟩) hHeld ?q321r
      case q321h => (intro wq hSw; clear hSw; go_simp; try with_reducible rfl)
      try simp only [z0, z1, z2, z3]
      refine tk 24 qPk5_24 (some 36) (v := ?q322v) (Or.inl ⟨by rfl, ?q322h⟩) hHeld ?q322r
      case q322h => (intro wq hSw; clear hSw; go_simp; try with_reducible rfl)
      try simp only [z0, z1, z2, z3]
      refine tk 25 qPk5_25 (some 37) (v := ?q323v) (Or.inl ⟨by rfl, ?q323h⟩) hHeld ?q323r
      case q323h => (intro wq hSw; clear hSw; go_simp; try with_reducible rfl)
      try simp only [z0, z1, z2, z3]
      refine wpAnyH_done (by kernel_rfl) ?_ _
      clear hHeld
      go_wp2_with fail
      go_ret
      exact ⟨by rw [HX.out]; rfl, (HS63.out).old⟩
    ·obtain rfl : i = 0 := by omega
     have HU : Hid (∀ z, (l.take 0).getLast? = some z → GLt z x) := fun z hz => by simp at hz
     have HA : Hid (∀ z ∈ l.take 0, ¬ Conf z x) := fun z hz => by simp at hz
     have dp : decide ((0 : Int) < ((0 : Nat) : Int)) = false := rfl
     clear hi1
     refine wp_region_held_drew (S := fun w' => w'.rangeAt B21 0 (grCells x)) (by kernel_rfl) ((fun j v hv => by rw [Nat.zero_add]; exact ((HS21.out).drew).at 0 rfl j hv)) (fun hHeld => ?_)
     refine tk 0 qPk5_0 (some 12) (yieldsIf_load_mid (by rfl) 29 (.tmp 4) rfl B21 (0) rfl (grCells x) _ (fun _ h => h) HUG.out rfl (info_gr)) hHeld ?_
     try simp only [z0, z1, z2, z3]
     refine tn 1 qPk5_1 (fun K hK => ?_)
     go_simp
     go_wp2_with (go_at_call 40; refine (HGr.out _).mono ?_; rintro e w61 ⟨rfl, hb⟩)
     have HS61 := Lib.hid (((HS21.out).drew).calls hb)
     refine hK.out _ _ ((fun j v hv => by rw [Nat.zero_add]; exact (HS61.out).at 0 rfl j hv)) (fun hHeld => ?_)
     clear hK K hb
     try simp only [z0, z1, z2, z3]
     refine tk 2 qPk5_2 (some 14) (v := .bool false) (Or.inl ⟨by rfl, ?q202h⟩) hHeld ?q202r
     case q202h => (intro wq hSw; clear hSw; go_simp; try with_reducible rfl)
     try simp only [z0, z1, z2, z3]
     refine tk 3 qPk5_3 (some 15) (v := ?q203v) (Or.inl ⟨by rfl, ?q203h⟩) hHeld ?q203r
     case q203h => (intro wq hSw; clear hSw; go_simp; try with_reducible rfl)
     try simp only [z0, z1, z2, z3]
     refine tk 4 qPk5_4 (some 16) (v := ?q204v) (Or.inl ⟨by rfl, ?q204h⟩) hHeld ?q204r
     case q204h => (intro wq hSw; clear hSw; go_simp; try with_reducible rfl)
     try simp only [z0, z1, z2, z3]
     refine tk 5 qPk5_5 (some 17) (v := .bool false) (Or.inl ⟨by rfl, ?q205h⟩) hHeld ?q205r
     case q205h => (intro wq hSw; clear hSw; go_simp; try with_reducible rfl)
     try simp only [z0, z1, z2, z3]
     refine tk 6 qPk5_6 (some 18) (v := ?q206v) (Or.inl ⟨by rfl, ?q206h⟩) hHeld ?q206r
     case q206h => (intro wq hSw; clear hSw; go_simp; try with_reducible rfl)
     try simp only [z0, z1, z2, z3]
     refine tk 7 qPk5_7 (some 19) (v := undef) (Or.inr ⟨by rfl, rfl⟩) hHeld ?_
     try simp only [z0, z1, z2, z3]
     refine tk 8 qPk5_8 (some 20) (v := undef) (Or.inr ⟨by rfl, rfl⟩) hHeld ?_
     try simp only [z0, z1, z2, z3]
     refine tk 9 qPk5_9 (some 21) (v := undef) (Or.inr ⟨by rfl, rfl⟩) hHeld ?_
     try simp only [z0, z1, z2, z3]
     refine tk 10 qPk5_10 (some 22) (v := undef) (Or.inr ⟨by rfl, rfl⟩) hHeld ?_
     try simp only [z0, z1, z2, z3]
     refine tk 11 qPk5_11 (some 23) (v := undef) (Or.inr ⟨by rfl, rfl⟩) hHeld ?_
     try simp only [z0, z1, z2, z3]
     refine tk 12 qPk5_12 (some 24) (v := undef) (Or.inr ⟨by rfl, rfl⟩) hHeld ?_
     try simp only [z0, z1, z2, z3]
     refine tn 13 qPk5_13 (fun K hK => ?_)
     rw [if_neg (by exact Bool.false_ne_true)]
     have HS62 := HS61
     refine hK.out _ _ ((fun j v hv => by rw [Nat.zero_add]; exact (HS62.out).at 0 rfl j hv)) (fun hHeld => ?_)
     clear hK K
     try simp only [z0, z1, z2, z3]
     refine tk 14 qPk5_14 (some 26) (v := undef) (Or.inr ⟨by rfl, rfl⟩) hHeld ?_
     try simp only [z0, z1, z2, z3]
     refine tk 15 qPk5_15 (some 27) (v := undef) (Or.inr ⟨by rfl, rfl⟩) hHeld ?_
     try simp only [z0, z1, z2, z3]
     refine tk 16 qPk5_16 (some 28) (v := undef) (Or.inr ⟨by rfl, rfl⟩) hHeld ?_
     try simp only [z0, z1, z2, z3]
     refine tk 17 qPk5_17 (some 29) (v := undef) (Or.inr ⟨by rfl, rfl⟩) hHeld ?_
     try simp only [z0, z1, z2, z3]
     refine tk 18 qPk5_18 (some 30) (v := undef) (Or.inr ⟨by rfl, rfl⟩) hHeld ?_
     try simp only [z0, z1, z2, z3]
     refine tk 19 qPk5_19 (some 31) (v := undef) (Or.inr ⟨by rfl, rfl⟩) hHeld ?_
     try simp only [z0, z1, z2, z3]
     refine tk 20 qPk5_20 (some 32) (v := undef) (Or.inr ⟨by rfl, rfl⟩) hHeld ?_
     try simp only [z0, z1, z2, z3]
     refine tk 21 qPk5_21 (some 33) (v := undef) (Or.inr ⟨by rfl, rfl⟩) hHeld ?_
     try simp only [z0, z1, z2, z3]
     refine tn 22 qPk5_22 (fun K hK => ?_)
     rw [if_neg (by exact Bool.false_ne_true)]
     have HS63 := HS62
     refine hK.out _ _ ((fun j v hv => by rw [Nat.zero_add]; exact (HS63.out).at 0 rfl j hv)) (fun hHeld => ?_)
     clear hK K
     try simp only [z0, z1, z2, z3]
     refine tk 23 qPk5_23 (some 35) (v := undef) (Or.inr ⟨by rfl, rfl⟩) hHeld ?_
     try simp only [z0, z1, z2, z3]
     refine tk 24 qPk5_24 (some 36) (v := ?q222v) (Or.inl ⟨by rfl, ?q222h⟩) hHeld ?q222r
     case q222h => (intro wq hSw; clear hSw; go_simp; try with_reducible rfl)
     try simp only [z0, z1, z2, z3]
     refine tk 25 qPk5_25 (some 37) (v := ?q223v) (Or.inl ⟨by rfl, ?q223h⟩) hHeld ?q223r
     case q223h => (intro wq hSw; clear hSw; go_simp; try with_reducible rfl)
     try simp only [z0, z1, z2, z3]
     refine wpAnyH_done (by kernel_rfl) ?_ _
     clear hHeld
     go_wp2_with fail
     go_roundw
     case rel => exact ⟨0 + 1, HLt.out, by go_num, by rw [lk_take_snoc HXi.out]; exact held_snoc HH.out HOk1.out HU.out HA.out, HS63.out.forget (L := [])⟩
     case measure => simp [intOf]; try (have := HLt.out; omega)
  ·obtain rfl : i = l.length := by omega
   have HX := Lib.hid (HYes.out (by have := HH.out; rwa [List.take_length] at this))
   clear hlt hi HH
   go_wp2_with fail
   go_ret
   exact ⟨by rw [HX.out]; rfl, HY.out.old⟩
end Go.Proofs.Ytcnaalbpbalgdaa
/- a set of numbers in a map that the walk has made: which numbers it has -/
namespace Go.Proofs.Ytcnaalbpbalgdaa
open Go.RowKit
open Go.Maps (Keyed)
set_option maxRecDepth 20000

theorem lawI : Keyed Try.prog 3 := Maps.int_keyed Try.underlying3
theorem zeroB (w : World) : (zeroValue 4).run Try.prog w = .ok (.bool false) w := by kernel_rfl
theorem run_makeSet (n : Int) (w : World) : (Instr.makeMap 69 (some (.int .i64 n))).run Try.prog w = .ok (.map (some w.heap.size)) (w.alloc (.map #[] 0)) := by
  simp [Instr.makeMap, run_underlying Try.underlying69, asInt, asIntOf]
def SeenM (W : World) (b n : Nat) (l : List Int) : Prop :=
  ∃ D : DataW Unit, W.ownsMap Try.prog 3 (plainElem Try.prog 4) b n D ∧ ∀ x, (Lit.int .i64 x).wf = true → D.atKey (.int .i64 x) (.lit (.bool false)) = .lit (.bool (decide (x ∈ l)))
theorem SeenM.made (w : World) : SeenM (w.alloc (.map #[] 0)) w.heap.size 0 [] := ⟨_, World.ownsMap_made w _ _ _, fun x _ => by
  rw [WideAt.atKey_none _ (by simp)]; simp⟩
theorem SeenM.kept {w w' : World} {b n : Nat} {l : List Int} {row : Option Nat} (h : SeenM w b n l) (hg : w.grownBy w' row) (hne : some b ≠ row) : SeenM w' b n l := by
  obtain ⟨D, h1, h2⟩ := h
  exact ⟨D, h1.kept hg hne, h2⟩
theorem SeenM.lt {w : World} {b n : Nat} {l : List Int} (h : SeenM w b n l) : b < w.heap.size := by
  obtain ⟨D, h1, _⟩ := h
  exact h1.lt
theorem SeenM.below {w w' : World} {b n : Nat} {l : List Int} (h : SeenM w b n l) (hb : Below w.heap.size w w') : SeenM w' b n l := h.kept (row := none) ⟨hb.os, hb.tape, hb.output, hb.size, fun k hk _ => hb.block k hk⟩ (by simp)
theorem seen_look {w : World} {b n : Nat} {l : List Int} {x : Int} {c : Bool} (h : SeenM w b n l) (hx : (Lit.int .i64 x).wf = true) (hc : decide (x ∈ l) = c) : Sem.run Try.prog (Instr.lookup 69 (.map (some b)) (.int .i64 x) false) w = .ok (.bool c) w := by
  obtain ⟨D, h1, h2⟩ := h
  obtain ⟨v, ps, hr, hv⟩ := h1.lookup lawI Try.underlying69 (zeroB w) (plainElem_bool Try.underlying4 false) (Maps.keyOf_int_mk Try.underlying3 hx)
  rw [h2 x hx, hc] at hv
  have hu := Try.underlying4
  unfold plainElem at hv
  rw [hu] at hv
  cases v <;> simp at hv
  rw [hr, hv.1]
theorem seen_store {w : World} {b n : Nat} {l : List Int} {x : Int} (h : SeenM w b n l) (hn : n < maxLen) (hx : (Lit.int .i64 x).wf = true) : ∃ w', (Instr.mapUpdate 69 (.map (some b)) (.int .i64 x) (.bool true)).run Try.prog w = .ok () w' ∧ SeenM w' b (n + 1) (l ++ [x]) ∧ w.grownBy w' (some b) := by
  obtain ⟨D, h1, h2⟩ := h
  obtain ⟨w', hr, ho, hg⟩ := h1.update lawI Try.underlying69 hn (Maps.keyOf_int_mk Try.underlying3 hx) (plainElem_bool Try.underlying4 true)
  refine ⟨w', hr, ⟨_, ho, fun y hy => ?_⟩, hg⟩
  by_cases e : y = x
  · subst e
    rw [Maps.atKey_put_same h1.isMap (by simp [WideAt.IsKeyLit])]
    simp
  · rw [Maps.atKey_put_other (by intro h; exact e (by injection h)), h2 y hy]
    simp [e]
end Go.Proofs.Ytcnaalbpbalgdaa
/- the program's validWaiting (locks) -/
namespace Go.Proofs.Ytcnaalbpbalgdaa
open Go.RowKit
open Go.Act renaming put → z0
open List renaming setIfInBounds_toArray → z1, set_cons_zero → z2, set_cons_succ → z3
set_option maxRecDepth 20000
set_option linter.unusedSimpArgs false
set_option linter.unusedVariables false

noncomputable def waitB (h l : List Gr) : Bool := @decide (WaitOk h l) (Classical.propDecidable _)
theorem waitB_iff {h l : List Gr} : waitB h l = true ↔ WaitOk h l := @decide_eq_true_iff _ (Classical.propDecidable _)
theorem waitB_no {h l : List Gr} (k : ¬ WaitOk h l) : waitB h l = false := by
 cases e : waitB h l with
 | false => rfl
 | true => exact absurd (waitB_iff.1 e) k
theorem w_grant {h l : List Gr} {i : Nat} {x : Gr} (hx : l[i]? = some x) (k : grOkB x = false) : waitB h l = false := waitB_no fun q => by
 have := grOkB_iff.2 (q.ok x (List.mem_of_getElem? hx)).1; rw [k] at this; cases this
theorem w_mode {h l : List Gr} {i : Nat} {x : Gr} (hx : l[i]? = some x) (k : x.mode ≤ modeR h x.tx x.page x.slot) : waitB h l = false := waitB_no fun q => by
 have h2 : modeR h x.tx x.page x.slot < x.mode := (q.ok x (List.mem_of_getElem? hx)).2
 omega
theorem w_two {h l : List Gr} {i : Nat} {x : Gr} (hx : l[i]? = some x) (k : x.tx ∈ (l.take i).map Gr.tx) : waitB h l = false := waitB_no fun q => by
 obtain ⟨y, hy, he⟩ := List.mem_map.1 k
 obtain ⟨p, hp, rfl⟩ := List.mem_take_iff_getElem.1 hy
 obtain ⟨hi, rfl⟩ := List.getElem?_eq_some_iff.1 hx
 exact List.pairwise_iff_getElem.1 q.one p i (by omega) hi (by omega) he
theorem wpList_store_seen {ops : Array Oper} {rest : List Oper} {a : Act} {w : World} {Q : Exit → Act → World → Prop} {ty : TypeId} {pos : String} {aft : Array Edge} (m x : Operand) {b n : Nat} {l : List Int} {y : Int} (hs : SeenM w b n l) (hn : n < maxLen) (hy : (Lit.int .i64 y).wf = true)
  (hm : a.eval m = .map (some b)) (hx : a.eval x = .int .i64 y) (hk : ∀ w', SeenM w' b (n + 1) (l ++ [y]) → w.grownBy w' (some b) → wpList Try.prog ops Q rest a w') :
  wpList Try.prog ops Q ({ dst := none, op := .mapUpdate 69 m x (.const (.bool true)), type := ty, pos := pos, after := aft, guard := none } :: rest) a w := by
 refine wpList_plain rfl fun K' hK' => ?_
 obtain ⟨w', hrun, r1, r2⟩ := seen_store hs hn hy
 have hc : a.eval (.const (.bool true)) = .bool true := rfl
 unfold Oper.wp
 simp [execOp, hm, hx, hc, hrun, Result.andThen]
 exact hK' _ _ (hk w' r1 r2)
def BelW (w W : World) : Prop := Below w.heap.size w W
/-- how the loop stands before its round i -/
structure WtRel (w : World) (cs : List Value) (l : List Gr) (i : Nat) (W : World) : Prop where
 old : Below w.heap.size w W
 box : W.heap[w.heap.size]? = some (.cells cs.toArray 25 (0, 0))
 seen : SeenM W (w.heap.size + 1) i ((l.take i).map Gr.tx)
theorem WtRel.next {w W V U : World} {cs : List Value} {l : List Gr} {i : Nat} {x : Gr} (h : WtRel w cs l i W) (hx : l[i]? = some x) (hb : Below W.heap.size W V) (hs : SeenM U (w.heap.size + 1) (i + 1) ((l.take i).map Gr.tx ++ [x.tx])) (hg : V.grownBy U (some (w.heap.size + 1))) : WtRel w cs l (i + 1) U := by
 have h1 := (Array.getElem?_eq_some_iff.1 h.box).1
 have h2 := h.old.trans (hb.mono h.old.size)
 refine ⟨h2.grown hg h2.size (fun k hk => by obtain rfl := Option.some.inj hk; omega), ?_, ?_⟩
 ·rw [hg.block _ (Nat.lt_of_lt_of_le h1 hb.size) (by simp), hb.block _ h1]; exact h.box
 ·rw [lk_take_snoc hx, List.map_append]; exact hs
abbrev qPk6_0 : Oper := { dst := some 17, op := Op.load 29 (Operand.tmp 5), type := 29, pos := "locks.go:70", after := #[], guard := none }
abbrev qPk6_1 : Oper := { dst := some 18, op := Op.call { callee := Callee.value (Operand.func 40), args := #[Operand.tmp 17], argTypes := #[29] }, type := 4, pos := "locks.go:70", after := #[{ on := 0, ground := Ground.data }], guard := none }
abbrev qPk6_2 : Oper := { dst := some 19, op := Op.unOp UnOp.not 4 (Operand.tmp 18), type := 4, pos := "locks.go:70", after := #[{ on := 1, ground := Ground.data }], guard := none }
abbrev qPk6_3 : Oper := { dst := some 20, op := Op.move (Operand.tmp 19), type := 4, pos := "locks.go:70", after := #[{ on := 2, ground := Ground.data }, { on := 1, ground := Ground.chain }], guard := none }
abbrev qPk6_4 : Oper := { dst := some 21, op := Op.move (Operand.tmp 3), type := 69, pos := "locks.go:70", after := #[{ on := 3, ground := Ground.guard }], guard := some (3, false) }
abbrev qPk6_5 : Oper := { dst := some 22, op := Op.fieldAddr 29 (Operand.tmp 5) 0, type := 0, pos := "locks.go:70", after := #[{ on := 3, ground := Ground.guard }], guard := some (3, false) }
abbrev qPk6_6 : Oper := { dst := some 23, op := Op.load 3 (Operand.tmp 22), type := 3, pos := "locks.go:70", after := #[{ on := 5, ground := Ground.data }, { on := 3, ground := Ground.guard }], guard := some (3, false) }
abbrev qPk6_7 : Oper := { dst := some 24, op := Op.lookup 69 (Operand.tmp 21) (Operand.tmp 23) false, type := 4, pos := "locks.go:70", after := #[{ on := 4, ground := Ground.data }, { on := 6, ground := Ground.data }, { on := 3, ground := Ground.guard }], guard := some (3, false) }
abbrev qPk6_8 : Oper := { dst := some 25, op := Op.pick (Operand.tmp 20) (Operand.const (Value.bool true)) (Operand.tmp 24), type := 4, pos := "locks.go:70", after := #[{ on := 3, ground := Ground.data }, { on := 7, ground := Ground.data }], guard := none }
abbrev qPk6_9 : Oper := { dst := some 26, op := Op.move (Operand.tmp 25), type := 4, pos := "locks.go:70", after := #[{ on := 8, ground := Ground.data }, { on := 3, ground := Ground.chain }], guard := none }
abbrev qPk6_10 : Oper := { dst := some 27, op := Op.fieldAddr 25 (Operand.tmp 1) 0, type := 0, pos := "locks.go:70", after := #[{ on := 9, ground := Ground.guard }], guard := some (9, false) }
abbrev qPk6_11 : Oper := { dst := some 28, op := Op.load 23 (Operand.tmp 27), type := 23, pos := "locks.go:70", after := #[{ on := 10, ground := Ground.data }, { on := 9, ground := Ground.guard }], guard := some (9, false) }
abbrev qPk6_12 : Oper := { dst := some 29, op := Op.fieldAddr 29 (Operand.tmp 5) 0, type := 0, pos := "locks.go:70", after := #[{ on := 9, ground := Ground.guard }], guard := some (9, false) }
abbrev qPk6_13 : Oper := { dst := some 30, op := Op.load 3 (Operand.tmp 29), type := 3, pos := "locks.go:70", after := #[{ on := 12, ground := Ground.data }, { on := 9, ground := Ground.guard }], guard := some (9, false) }
abbrev qPk6_14 : Oper := { dst := some 31, op := Op.fieldAddr 29 (Operand.tmp 5) 1, type := 0, pos := "locks.go:70", after := #[{ on := 9, ground := Ground.guard }], guard := some (9, false) }
abbrev qPk6_15 : Oper := { dst := some 32, op := Op.load 27 (Operand.tmp 31), type := 27, pos := "locks.go:70", after := #[{ on := 14, ground := Ground.data }, { on := 9, ground := Ground.guard }], guard := some (9, false) }
abbrev qPk6_16 : Oper := { dst := some 34, op := Op.fieldAddr 29 (Operand.tmp 5) 2, type := 0, pos := "locks.go:70", after := #[{ on := 9, ground := Ground.guard }], guard := some (9, false) }
abbrev qPk6_17 : Oper := { dst := some 35, op := Op.load 3 (Operand.tmp 34), type := 3, pos := "locks.go:70", after := #[{ on := 17, ground := Ground.data }, { on := 9, ground := Ground.guard }], guard := some (9, false) }
abbrev qPk6_18 : Oper := { dst := some 33, op := Op.call { callee := Callee.value (Operand.func 41), args := #[Operand.tmp 28, Operand.tmp 30, Operand.tmp 32], argTypes := #[23, 3, 27] }, type := 3, pos := "locks.go:70", after := #[{ on := 11, ground := Ground.data }, { on := 13, ground := Ground.data }, { on := 15, ground := Ground.data }, { on := 9, ground := Ground.chain }, { on := 9, ground := Ground.guard }], guard := some (9, false) }
abbrev qPk6_19 : Oper := { dst := some 36, op := Op.binOp BinOp.geq 3 (Operand.tmp 33) (Operand.tmp 35) 3, type := 4, pos := "locks.go:70", after := #[{ on := 16, ground := Ground.data }, { on := 18, ground := Ground.data }, { on := 9, ground := Ground.guard }], guard := some (9, false) }
abbrev qPk6_20 : Oper := { dst := some 37, op := Op.pick (Operand.tmp 26) (Operand.const (Value.bool true)) (Operand.tmp 36), type := 4, pos := "locks.go:70", after := #[{ on := 9, ground := Ground.data }, { on := 19, ground := Ground.data }], guard := none }
set_option maxHeartbeats 8000000 in
theorem validWaiting_any {h v : Value} {t : Tb} {R : List Rng} (w : World) (ht : TbRd h v t R) (hR : RdIn w R) (hg : GoodTb t) (hh : HeldOk t.held) :
  Calls Try.prog 34 #[.agg (tbCells h v).toArray] w fun e w' => e = .returned (.bool (waitB t.held t.wait)) ∧ Below w.heap.size w w' := by
 obtain ⟨a, cap, rfl, hnc, hcm⟩ := ht.1.shape
 have HMo : Hid (∀ tx k W, Below w.heap.size w W → Calls Try.prog 41 #[.slice a t.held.length cap, .int .i64 tx, .agg (lkCells k).toArray] W fun e w' => e = .returned (.int .i64 (modeR t.held tx k.page k.slot)) ∧ Below W.heap.size W w') := fun tx k W hb => pmode_any tx k t.held _ R W hh.up ht.1 (hR.below hb) (by have := hg.few; omega)
 obtain ⟨a2, cap2, rfl, hnc2, hcm2, hg0⟩ := SlRd.open ht.2 hR
 have HGe := Lib.hid hg.wait
 have HN : Hid (t.wait.length ≤ 100000) := hg.few.2
 have HBx : Hid (∃ cs, cs = tbCells (.slice a t.held.length cap) (.slice a2 t.wait.length cap2)) := ⟨_, rfl⟩
 have h1 := (Hp.start w).put 25 (tbCells (.slice a t.held.length cap) (.slice a2 t.wait.length cap2))
 have hbx : (w.alloc (.cells (tbCells (.slice a t.held.length cap) (.slice a2 t.wait.length cap2)).toArray 25)).heap[w.heap.size]? = some (.cells (tbCells (.slice a t.held.length cap) (.slice a2 t.wait.length cap2)).toArray 25 (0, 0)) := h1.get 0 rfl
 have HW0 : Hid (WtRel w (tbCells (.slice a t.held.length cap) (.slice a2 t.wait.length cap2)) t.wait 0 ((w.alloc (.cells (tbCells (.slice a t.held.length cap) (.slice a2 t.wait.length cap2)).toArray 25)).alloc (.map #[] 0))) := by
  refine ⟨h1.old.alloc h1.old.size _, ?_, ?_⟩
  ·have hlt := (Array.getElem?_eq_some_iff.1 hbx).1
   rw [((Below.refl _ _).alloc (Nat.le_refl _) (.map #[] 0) : Below _ (w.alloc (.cells (tbCells (.slice a t.held.length cap) (.slice a2 t.wait.length cap2)).toArray 25)) _).block _ hlt]
   exact hbx
  ·have := SeenM.made (w.alloc (.cells (tbCells (.slice a t.held.length cap) (.slice a2 t.wait.length cap2)).toArray 25))
   rw [World.size_alloc] at this
   exact this
 have hmk := run_makeSet
 have b0' : (w.alloc (.cells (tbCells (.slice a t.held.length cap) (.slice a2 t.wait.length cap2)).toArray 25)).cell? ⟨w.heap.size, 1, none⟩ = some (.slice a2 t.wait.length cap2) := h1.at 0 rfl 1 rfl
 have HNg : Hid (∀ (i : Nat) (x : Gr), t.wait[i]? = some x → grOkB x = false → waitB t.held t.wait = false) := fun i x => w_grant
 have HNm : Hid (∀ (i : Nat) (x : Gr), t.wait[i]? = some x → x.mode ≤ modeR t.held x.tx x.page x.slot → waitB t.held t.wait = false) := fun i x => w_mode
 have HNt : Hid (∀ (i : Nat) (x : Gr), t.wait[i]? = some x → x.tx ∈ (t.wait.take i).map Gr.tx → waitB t.held t.wait = false) := fun i x => w_two
 have HYes : Hid (WaitOk t.held t.wait → waitB t.held t.wait = true) := waitB_iff.2
 have hwsz : (w.alloc (.cells (tbCells (.slice a t.held.length cap) (.slice a2 t.wait.length cap2)).toArray 25)).heap.size = w.heap.size + 1 := by simp
 clear h1 hbx ht hR hg hh hnc hcm hnc2 hcm2 HBx
 obtain ⟨fs, hu⟩ := under_gr
 have HUG := Lib.hid hu
 clear hu
 obtain ⟨fs2, hu2⟩ := under_lk
 have HUK := Lib.hid hu2
 clear hu2
 generalize waitB t.held t.wait = ok at *
 go_enter Try.func34, Try.ntmps34
 go_upto_region 1 with (fail)
 generalize (w.alloc (.cells (tbCells (.slice a t.held.length cap) (.slice a2 t.wait.length cap2)).toArray 25)) = w1 at *
 go_upto_region 2 with (fail)
 clear hmk b0' hwsz
 generalize w1.alloc (.map #[] 0) = w2 at *
 have b1 : w2.cell? ⟨w.heap.size, 1, none⟩ = some (.slice a2 t.wait.length cap2) := by rw [cell_of_row w2 _ 1 _ _ _ HW0.out.box]; rfl
 go_wp2_with fail
 clear b1
 go_loopw [13] (fun iv wr => ∃ i : Nat, i ≤ t.wait.length ∧ iv = .int .i64 i ∧ WaitOk t.held (t.wait.take i) ∧ WtRel w (tbCells (.slice a t.held.length cap) (.slice a2 t.wait.length cap2)) t.wait i wr) (fun iv _ => t.wait.length - (intOf iv).toNat)
 case atStart => exact ⟨0, by omega, rfl, waitOk_nil _, HW0.out⟩
 case round =>
  clear HW0
  obtain ⟨i, hi, rfl, hh, hs⟩ := hrel
  have HQ := Lib.hid hs
  have HH := Lib.hid hh
  clear hs hh
  by_cases hlt : i < t.wait.length
  ·obtain ⟨g, off, rfl, hr⟩ := hg0.out (by omega)
   obtain ⟨x, hx⟩ : ∃ x, t.wait[i]? = some x := ⟨_, List.getElem?_eq_getElem hlt⟩
   have HBw : Hid (∀ W, BelW wr W → Below w.heap.size w W) := fun W (hb : Below wr.heap.size wr W) => HQ.out.old.trans (hb.mono HQ.out.old.size)
   have HRg : Hid (∀ W, BelW wr W → W.rangeAt g (off + i * 4) (grCells x)) := fun W (hb : Below wr.heap.size wr W) => elem_rng (hr W (HBw.out W hb)) hx
   have HBt : Hid (∀ W, BelW wr W → W.rangeAt w.heap.size 0 (tbCells (.slice a t.held.length cap) (.slice (some ⟨g, off, none⟩) t.wait.length cap2))) := fun W (hb : Below wr.heap.size wr W) j v hv => by
    rw [Nat.zero_add, cell_of_row W _ j _ _ _ ((hb.block _ (Array.getElem?_eq_some_iff.1 HQ.out.box).1).trans HQ.out.box), List.getElem?_toArray]; exact hv
   have HSe : Hid (∀ W, BelW wr W → SeenM W (w.heap.size + 1) i ((t.wait.take i).map Gr.tx)) := fun W (hb : Below wr.heap.size wr W) => HQ.out.seen.below hb
   have HXi := Lib.hid hx
   have HGx := Lib.hid (HGe.out x (List.mem_of_getElem? hx))
   have HGr : Hid (∀ W, Calls Try.prog 40 #[.agg (grCells x).toArray] W fun e w' => e = .returned (.bool (grOkB x)) ∧ Below W.heap.size W w') := fun W => pgrant_any x W
   have HOx := Lib.hid (@grOkB_iff x)
   have HMx : Hid (∀ W, Below w.heap.size w W → Calls Try.prog 41 #[.slice a t.held.length cap, .int .i64 x.tx, .agg (lkCells x.lock).toArray] W fun e w' => e = .returned (.int .i64 (modeR t.held x.tx x.page x.slot)) ∧ Below W.heap.size W w') := fun W hb => HMo.out x.tx x.lock W hb
   have hNx := HNg.out i x hx
   have hNm := HNm.out i x hx
   have hNt := HNt.out i x hx
   have hii : (i : Int) < (t.wait.length : Int) := by omega
   have hi0 : (0 : Int) ≤ (i : Int) := by omega
   have hiw : IntKind.i64.wrap ((i : Int) + 1) = (i : Int) + 1 := IntWalk.i64_in _ (by have := HN.out; omega)
   have HIm : Hid (i < maxLen) := by show i < _; have := HN.out; unfold maxLen; omega
   have HLt := Lib.hid hlt
   have HY := Lib.hid (Hp.start wr)
   clear hr hi hx hg0 hlt HMo
   go_upto_region 5 with (first | ((with_reducible refine wpList_load_at 29 (.tmp 15) g ((off + i * 4)) (grCells x) HUG.out ?_ ?_ ?_ ?_ ?_); (exact rfl); (exact (HRg.out _ (HY.out).old)); (exact rfl); (exact info_gr); simp only [Act.put, List.setIfInBounds_toArray, List.set_cons_zero, List.set_cons_succ]) | ((with_reducible refine wpList_alloc_ob 29 (grCells grNil) ?_ ?_); (exact alloc_gr); simp only [Act.put, List.setIfInBounds_toArray, List.set_cons_zero, List.set_cons_succ]) | ((with_reducible refine wpList_store_ob 29 (.tmp 5) (wr.heap.size) (grCells x) (grCells grNil) 29 ?_ ?_ ?_ ?_ ?_ ?_ ?_); (exact rfl); (exact rfl); (exact ((HY.out).put 29 (grCells grNil)).get 0 rfl); (exact info_gr); (exact rfl); (exact (oneCell_gr _)); skip))
   have HS21 : Hid (Hp wr [.ob (wr.heap.size) 29 (grCells x)] ((wr.alloc (.cells (grCells grNil).toArray 29)).setRow (wr.heap.size) (grCells x).toArray)) := ((HY.out).put 29 (grCells grNil)).row 0 rfl (grCells x)
   clear HY
   generalize ((wr.alloc (.cells (grCells grNil).toArray 29)).setRow (wr.heap.size) (grCells x).toArray) = w21 at *
   generalize wr.heap.size = B21 at *
   generalize grOkB x = gb at *
   obtain ⟨mo, hmoe⟩ : ∃ mo, modeR t.held x.tx x.page x.slot = mo := ⟨_, rfl⟩
   have HMe := Lib.hid hmoe
   simp only [hmoe] at HMx hNm
   clear hmoe
   cases gb
   case false =>
    have HX := Lib.hid (hNx rfl)
    clear hNx HOx hNm hNt
    refine wp_region_held_drew (S := fun w' => w'.rangeAt B21 0 (grCells x) ∧ w'.rangeAt w.heap.size 0 (tbCells (.slice a t.held.length cap) (.slice (some ⟨g, off, none⟩) t.wait.length cap2)) ∧ SeenM w' (w.heap.size + 1) i ((t.wait.take i).map Gr.tx)) (by kernel_rfl) (⟨(fun j v hv => by rw [Nat.zero_add]; exact ((HS21.out).drew).at 0 rfl j hv), (HBt.out _ ((HS21.out).drew).old), HSe.out _ ((HS21.out).drew).old⟩) (fun hHeld => ?_)
    refine tk 0 qPk6_0 (some 17) (yieldsIf_load_mid (by rfl) 29 (.tmp 5) rfl B21 (0) rfl (grCells x) _ (fun _ h => h.1) HUG.out rfl (info_gr)) hHeld ?_
    try simp only [z0, z1, z2, z3]
    refine tn 1 qPk6_1 (fun K hK => ?_)
    go_simp
    go_wp2_with (go_at_call 40; refine (HGr.out _).mono ?_; rintro e w61 ⟨rfl, hb⟩)
    have HS61 := Lib.hid (((HS21.out).drew).calls hb)
    refine hK.out _ _ (⟨(fun j v hv => by rw [Nat.zero_add]; exact (HS61.out).at 0 rfl j hv), (HBt.out _ (HS61.out).old), HSe.out _ (HS61.out).old⟩) (fun hHeld => ?_)
    clear hK K hb
    try simp only [z0, z1, z2, z3]
    refine tk 2 qPk6_2 (some 19) (v := .bool true) (Or.inl ⟨by rfl, ?q102h⟩) hHeld ?q102r
    case q102h => (intro wq hSw; clear hSw; go_simp; try with_reducible rfl)
    try simp only [z0, z1, z2, z3]
    refine tk 3 qPk6_3 (some 20) (v := ?q103v) (Or.inl ⟨by rfl, ?q103h⟩) hHeld ?q103r
    case q103h => (intro wq hSw; clear hSw; go_simp; try with_reducible rfl)
    try simp only [z0, z1, z2, z3]
    refine tk 4 qPk6_4 (some 21) (v := undef) (Or.inr ⟨by rfl, rfl⟩) hHeld ?_
    try simp only [z0, z1, z2, z3]
    refine tk 5 qPk6_5 (some 22) (v := undef) (Or.inr ⟨by rfl, rfl⟩) hHeld ?_
    try simp only [z0, z1, z2, z3]
    refine tk 6 qPk6_6 (some 23) (v := undef) (Or.inr ⟨by rfl, rfl⟩) hHeld ?_
    try simp only [z0, z1, z2, z3]
    refine tk 7 qPk6_7 (some 24) (v := undef) (Or.inr ⟨by rfl, rfl⟩) hHeld ?_
    try simp only [z0, z1, z2, z3]
    refine tk 8 qPk6_8 (some 25) (v := ?q108v) (Or.inl ⟨by rfl, ?q108h⟩) hHeld ?q108r
    case q108h => (intro wq hSw; clear hSw; go_simp; try with_reducible rfl)
    try simp only [z0, z1, z2, z3]
    refine tk 9 qPk6_9 (some 26) (v := ?q109v) (Or.inl ⟨by rfl, ?q109h⟩) hHeld ?q109r
    case q109h => (intro wq hSw; clear hSw; go_simp; try with_reducible rfl)
    try simp only [z0, z1, z2, z3]
    refine tk 10 qPk6_10 (some 27) (v := undef) (Or.inr ⟨by rfl, rfl⟩) hHeld ?_
    try simp only [z0, z1, z2, z3]
    refine tk 11 qPk6_11 (some 28) (v := undef) (Or.inr ⟨by rfl, rfl⟩) hHeld ?_
    try simp only [z0, z1, z2, z3]
    refine tk 12 qPk6_12 (some 29) (v := undef) (Or.inr ⟨by rfl, rfl⟩) hHeld ?_
    try simp only [z0, z1, z2, z3]
    refine tk 13 qPk6_13 (some 30) (v := undef) (Or.inr ⟨by rfl, rfl⟩) hHeld ?_
    try simp only [z0, z1, z2, z3]
    refine tk 14 qPk6_14 (some 31) (v := undef) (Or.inr ⟨by rfl, rfl⟩) hHeld ?_
    try simp only [z0, z1, z2, z3]
    refine tk 15 qPk6_15 (some 32) (v := undef) (Or.inr ⟨by rfl, rfl⟩) hHeld ?_
    try simp only [z0, z1, z2, z3]
    refine tk 17 qPk6_16 (some 34) (v := undef) (Or.inr ⟨by rfl, rfl⟩) hHeld ?_
    try simp only [z0, z1, z2, z3]
    refine tk 18 qPk6_17 (some 35) (v := undef) (Or.inr ⟨by rfl, rfl⟩) hHeld ?_
    try simp only [z0, z1, z2, z3]
    refine tn 16 qPk6_18 (fun K hK => ?_)
    rw [if_neg (by exact Bool.false_ne_true)]
    have HS62 := HS61
    refine hK.out _ _ (⟨(fun j v hv => by rw [Nat.zero_add]; exact (HS62.out).at 0 rfl j hv), (HBt.out _ (HS62.out).old), HSe.out _ (HS62.out).old⟩) (fun hHeld => ?_)
    clear hK K
    try simp only [z0, z1, z2, z3]
    refine tk 19 qPk6_19 (some 36) (v := undef) (Or.inr ⟨by rfl, rfl⟩) hHeld ?_
    try simp only [z0, z1, z2, z3]
    refine tk 20 qPk6_20 (some 37) (v := ?q119v) (Or.inl ⟨by rfl, ?q119h⟩) hHeld ?q119r
    case q119h => (intro wq hSw; clear hSw; go_simp; try with_reducible rfl)
    try simp only [z0, z1, z2, z3]
    refine wpAnyH_done (by kernel_rfl) ?_ _
    clear hHeld
    go_wp2_with fail
    go_ret
    exact ⟨by rw [HX.out]; rfl, HBw.out _ (HS62.out).old⟩
   case true =>
    have HOk1 := Lib.hid (HOx.out.1 rfl)
    clear hNx HOx
    by_cases hm : x.tx ∈ (t.wait.take i).map Gr.tx
    ·have HX := Lib.hid (hNt hm)
     have HMem := Lib.hid (decide_eq_true hm)
     clear hNm hNt hm
     refine wp_region_held_drew (S := fun w' => w'.rangeAt B21 0 (grCells x) ∧ w'.rangeAt w.heap.size 0 (tbCells (.slice a t.held.length cap) (.slice (some ⟨g, off, none⟩) t.wait.length cap2)) ∧ SeenM w' (w.heap.size + 1) i ((t.wait.take i).map Gr.tx)) (by kernel_rfl) (⟨(fun j v hv => by rw [Nat.zero_add]; exact ((HS21.out).drew).at 0 rfl j hv), (HBt.out _ ((HS21.out).drew).old), HSe.out _ ((HS21.out).drew).old⟩) (fun hHeld => ?_)
     refine tk 0 qPk6_0 (some 17) (yieldsIf_load_mid (by rfl) 29 (.tmp 5) rfl B21 (0) rfl (grCells x) _ (fun _ h => h.1) HUG.out rfl (info_gr)) hHeld ?_
     try simp only [z0, z1, z2, z3]
     refine tn 1 qPk6_1 (fun K hK => ?_)
     go_simp
     go_wp2_with (go_at_call 40; refine (HGr.out _).mono ?_; rintro e w61 ⟨rfl, hb⟩)
     have HS61 := Lib.hid (((HS21.out).drew).calls hb)
     refine hK.out _ _ (⟨(fun j v hv => by rw [Nat.zero_add]; exact (HS61.out).at 0 rfl j hv), (HBt.out _ (HS61.out).old), HSe.out _ (HS61.out).old⟩) (fun hHeld => ?_)
     clear hK K hb
     try simp only [z0, z1, z2, z3]
     refine tk 2 qPk6_2 (some 19) (v := .bool false) (Or.inl ⟨by rfl, ?q202h⟩) hHeld ?q202r
     case q202h => (intro wq hSw; clear hSw; go_simp; try with_reducible rfl)
     try simp only [z0, z1, z2, z3]
     refine tk 3 qPk6_3 (some 20) (v := ?q203v) (Or.inl ⟨by rfl, ?q203h⟩) hHeld ?q203r
     case q203h => (intro wq hSw; clear hSw; go_simp; try with_reducible rfl)
     try simp only [z0, z1, z2, z3]
     refine tk 4 qPk6_4 (some 21) (v := ?q204v) (Or.inl ⟨by rfl, ?q204h⟩) hHeld ?q204r
     case q204h => (intro wq hSw; clear hSw; go_simp; try with_reducible rfl)
     try simp only [z0, z1, z2, z3]
     refine tk 5 qPk6_5 (some 22) (v := ?q205v) (Or.inl ⟨by rfl, ?q205h⟩) hHeld ?q205r
     case q205h => (intro wq hSw; clear hSw; go_simp; try with_reducible rfl)
     try simp only [z0, z1, z2, z3]
     refine tk 6 qPk6_6 (some 23) (v := .int .i64 x.tx) (Or.inl ⟨by rfl, ?q206h⟩) hHeld ?q206r
     case q206h => (intro wq hSw; have lq := (hSw.1) 0 (.int .i64 x.tx) rfl; simp only [Nat.zero_add] at lq; clear hSw; go_simp; try with_reducible rfl)
     try simp only [z0, z1, z2, z3]
     refine tk 7 qPk6_7 (some 24) (v := .bool true) (Or.inl ⟨by rfl, ?q207h⟩) hHeld ?q207r
     case q207h => (intro wq hSw; have lq := seen_look hSw.2.2 HGx.out.tx HMem.out; clear hSw; go_simp; try with_reducible rfl)
     try simp only [z0, z1, z2, z3]
     refine tk 8 qPk6_8 (some 25) (v := ?q208v) (Or.inl ⟨by rfl, ?q208h⟩) hHeld ?q208r
     case q208h => (intro wq hSw; clear hSw; go_simp; try with_reducible rfl)
     try simp only [z0, z1, z2, z3]
     refine tk 9 qPk6_9 (some 26) (v := ?q209v) (Or.inl ⟨by rfl, ?q209h⟩) hHeld ?q209r
     case q209h => (intro wq hSw; clear hSw; go_simp; try with_reducible rfl)
     try simp only [z0, z1, z2, z3]
     refine tk 10 qPk6_10 (some 27) (v := undef) (Or.inr ⟨by rfl, rfl⟩) hHeld ?_
     try simp only [z0, z1, z2, z3]
     refine tk 11 qPk6_11 (some 28) (v := undef) (Or.inr ⟨by rfl, rfl⟩) hHeld ?_
     try simp only [z0, z1, z2, z3]
     refine tk 12 qPk6_12 (some 29) (v := undef) (Or.inr ⟨by rfl, rfl⟩) hHeld ?_
     try simp only [z0, z1, z2, z3]
     refine tk 13 qPk6_13 (some 30) (v := undef) (Or.inr ⟨by rfl, rfl⟩) hHeld ?_
     try simp only [z0, z1, z2, z3]
     refine tk 14 qPk6_14 (some 31) (v := undef) (Or.inr ⟨by rfl, rfl⟩) hHeld ?_
     try simp only [z0, z1, z2, z3]
     refine tk 15 qPk6_15 (some 32) (v := undef) (Or.inr ⟨by rfl, rfl⟩) hHeld ?_
     try simp only [z0, z1, z2, z3]
     refine tk 17 qPk6_16 (some 34) (v := undef) (Or.inr ⟨by rfl, rfl⟩) hHeld ?_
     try simp only [z0, z1, z2, z3]
     refine tk 18 qPk6_17 (some 35) (v := undef) (Or.inr ⟨by rfl, rfl⟩) hHeld ?_
     try simp only [z0, z1, z2, z3]
     refine tn 16 qPk6_18 (fun K hK => ?_)
     rw [if_neg (by exact Bool.false_ne_true)]
     have HS62 := HS61
     refine hK.out _ _ (⟨(fun j v hv => by rw [Nat.zero_add]; exact (HS62.out).at 0 rfl j hv), (HBt.out _ (HS62.out).old), HSe.out _ (HS62.out).old⟩) (fun hHeld => ?_)
     clear hK K
     try simp only [z0, z1, z2, z3]
     refine tk 19 qPk6_19 (some 36) (v := undef) (Or.inr ⟨by rfl, rfl⟩) hHeld ?_
     try simp only [z0, z1, z2, z3]
     refine tk 20 qPk6_20 (some 37) (v := ?q219v) (Or.inl ⟨by rfl, ?q219h⟩) hHeld ?q219r
     case q219h => (intro wq hSw; clear hSw; go_simp; try with_reducible rfl)
     try simp only [z0, z1, z2, z3]
     refine wpAnyH_done (by kernel_rfl) ?_ _
     clear hHeld
     go_wp2_with fail
     go_ret
     exact ⟨by rw [HX.out]; rfl, HBw.out _ (HS62.out).old⟩
    ·have HMem := Lib.hid (decide_eq_false hm)
     have HM1 := Lib.hid hm
     clear hNt hm
     by_cases hmo : x.mode ≤ mo
     ·have HX := Lib.hid (hNm hmo)
      have dmo : decide (x.mode ≤ mo) = true := decide_eq_true hmo
      clear hNm hmo
      refine wp_region_held_drew (S := fun w' => w'.rangeAt B21 0 (grCells x) ∧ w'.rangeAt w.heap.size 0 (tbCells (.slice a t.held.length cap) (.slice (some ⟨g, off, none⟩) t.wait.length cap2)) ∧ SeenM w' (w.heap.size + 1) i ((t.wait.take i).map Gr.tx)) (by kernel_rfl) (⟨(fun j v hv => by rw [Nat.zero_add]; exact ((HS21.out).drew).at 0 rfl j hv), (HBt.out _ ((HS21.out).drew).old), HSe.out _ ((HS21.out).drew).old⟩) (fun hHeld => ?_)
      refine tk 0 qPk6_0 (some 17) (yieldsIf_load_mid (by rfl) 29 (.tmp 5) rfl B21 (0) rfl (grCells x) _ (fun _ h => h.1) HUG.out rfl (info_gr)) hHeld ?_
      try simp only [z0, z1, z2, z3]
      refine tn 1 qPk6_1 (fun K hK => ?_)
      go_simp
      go_wp2_with (go_at_call 40; refine (HGr.out _).mono ?_; rintro e w61 ⟨rfl, hb⟩)
      have HS61 := Lib.hid (((HS21.out).drew).calls hb)
      refine hK.out _ _ (⟨(fun j v hv => by rw [Nat.zero_add]; exact (HS61.out).at 0 rfl j hv), (HBt.out _ (HS61.out).old), HSe.out _ (HS61.out).old⟩) (fun hHeld => ?_)
      clear hK K hb
      try simp only [z0, z1, z2, z3]
      refine tk 2 qPk6_2 (some 19) (v := .bool false) (Or.inl ⟨by rfl, ?q302h⟩) hHeld ?q302r
      case q302h => (intro wq hSw; clear hSw; go_simp; try with_reducible rfl)
      try simp only [z0, z1, z2, z3]
      refine tk 3 qPk6_3 (some 20) (v := ?q303v) (Or.inl ⟨by rfl, ?q303h⟩) hHeld ?q303r
      case q303h => (intro wq hSw; clear hSw; go_simp; try with_reducible rfl)
      try simp only [z0, z1, z2, z3]
      refine tk 4 qPk6_4 (some 21) (v := ?q304v) (Or.inl ⟨by rfl, ?q304h⟩) hHeld ?q304r
      case q304h => (intro wq hSw; clear hSw; go_simp; try with_reducible rfl)
      try simp only [z0, z1, z2, z3]
      refine tk 5 qPk6_5 (some 22) (v := ?q305v) (Or.inl ⟨by rfl, ?q305h⟩) hHeld ?q305r
      case q305h => (intro wq hSw; clear hSw; go_simp; try with_reducible rfl)
      try simp only [z0, z1, z2, z3]
      refine tk 6 qPk6_6 (some 23) (v := .int .i64 x.tx) (Or.inl ⟨by rfl, ?q306h⟩) hHeld ?q306r
      case q306h => (intro wq hSw; have lq := (hSw.1) 0 (.int .i64 x.tx) rfl; simp only [Nat.zero_add] at lq; clear hSw; go_simp; try with_reducible rfl)
      try simp only [z0, z1, z2, z3]
      refine tk 7 qPk6_7 (some 24) (v := .bool false) (Or.inl ⟨by rfl, ?q307h⟩) hHeld ?q307r
      case q307h => (intro wq hSw; have lq := seen_look hSw.2.2 HGx.out.tx HMem.out; clear hSw; go_simp; try with_reducible rfl)
      try simp only [z0, z1, z2, z3]
      refine tk 8 qPk6_8 (some 25) (v := ?q308v) (Or.inl ⟨by rfl, ?q308h⟩) hHeld ?q308r
      case q308h => (intro wq hSw; clear hSw; go_simp; try with_reducible rfl)
      try simp only [z0, z1, z2, z3]
      refine tk 9 qPk6_9 (some 26) (v := ?q309v) (Or.inl ⟨by rfl, ?q309h⟩) hHeld ?q309r
      case q309h => (intro wq hSw; clear hSw; go_simp; try with_reducible rfl)
      try simp only [z0, z1, z2, z3]
      refine tk 10 qPk6_10 (some 27) (v := ?q310v) (Or.inl ⟨by rfl, ?q310h⟩) hHeld ?q310r
      case q310h => (intro wq hSw; clear hSw; go_simp; try with_reducible rfl)
      try simp only [z0, z1, z2, z3]
      refine tk 11 qPk6_11 (some 28) (v := .slice a t.held.length cap) (Or.inl ⟨by rfl, ?q311h⟩) hHeld ?q311r
      case q311h => (intro wq hSw; have lq := (hSw.2.1) 0 (.slice a t.held.length cap) rfl; simp only [Nat.zero_add] at lq; clear hSw; go_simp; try with_reducible rfl)
      try simp only [z0, z1, z2, z3]
      refine tk 12 qPk6_12 (some 29) (v := ?q312v) (Or.inl ⟨by rfl, ?q312h⟩) hHeld ?q312r
      case q312h => (intro wq hSw; clear hSw; go_simp; try with_reducible rfl)
      try simp only [z0, z1, z2, z3]
      refine tk 13 qPk6_13 (some 30) (v := .int .i64 x.tx) (Or.inl ⟨by rfl, ?q313h⟩) hHeld ?q313r
      case q313h => (intro wq hSw; have lq := (hSw.1) 0 (.int .i64 x.tx) rfl; simp only [Nat.zero_add] at lq; clear hSw; go_simp; try with_reducible rfl)
      try simp only [z0, z1, z2, z3]
      refine tk 14 qPk6_14 (some 31) (v := ?q314v) (Or.inl ⟨by rfl, ?q314h⟩) hHeld ?q314r
      case q314h => (intro wq hSw; clear hSw; go_simp; try with_reducible rfl)
      try simp only [z0, z1, z2, z3]
      refine tk 15 qPk6_15 (some 32) (yieldsIf_load_mid (by rfl) 27 (.tmp 31) rfl B21 (1) rfl (lkCells x.lock) _ (fun _ h => range_part (h.1) (mid_lk x)) HUK.out rfl (info_lk)) hHeld ?_
      try simp only [z0, z1, z2, z3]
      refine tk 17 qPk6_16 (some 34) (v := ?q316v) (Or.inl ⟨by rfl, ?q316h⟩) hHeld ?q316r
      case q316h => (intro wq hSw; clear hSw; go_simp; try with_reducible rfl)
      try simp only [z0, z1, z2, z3]
      refine tk 18 qPk6_17 (some 35) (v := .int .i64 x.mode) (Or.inl ⟨by rfl, ?q317h⟩) hHeld ?q317r
      case q317h => (intro wq hSw; have lq := (hSw.1) 3 (.int .i64 x.mode) rfl; simp only [Nat.zero_add] at lq; clear hSw; go_simp; try with_reducible rfl)
      try simp only [z0, z1, z2, z3]
      refine tn 16 qPk6_18 (fun K hK => ?_)
      go_simp
      go_wp2_with (go_at_call 41; refine (HMx.out _ (HBw.out _ (HS61.out).old)).mono ?_; rintro e w62 ⟨rfl, hb⟩)
      have HS62 := Lib.hid ((HS61.out).calls hb)
      refine hK.out _ _ (⟨(fun j v hv => by rw [Nat.zero_add]; exact (HS62.out).at 0 rfl j hv), (HBt.out _ (HS62.out).old), HSe.out _ (HS62.out).old⟩) (fun hHeld => ?_)
      clear hK K hb
      try simp only [z0, z1, z2, z3]
      refine tk 19 qPk6_19 (some 36) (v := .bool true) (Or.inl ⟨by rfl, ?q318h⟩) hHeld ?q318r
      case q318h => (intro wq hSw; clear hSw; go_simp; try with_reducible rfl)
      try simp only [z0, z1, z2, z3]
      refine tk 20 qPk6_20 (some 37) (v := ?q319v) (Or.inl ⟨by rfl, ?q319h⟩) hHeld ?q319r
      case q319h => (intro wq hSw; clear hSw; go_simp; try with_reducible rfl)
      try simp only [z0, z1, z2, z3]
      refine wpAnyH_done (by kernel_rfl) ?_ _
      clear hHeld
      go_wp2_with fail
      go_ret
      exact ⟨by rw [HX.out]; rfl, HBw.out _ (HS62.out).old⟩
     ·have dmo : decide (x.mode ≤ mo) = false := decide_eq_false hmo
      have HMo2 : Hid (mo < x.mode) := by show _ < _; omega
      clear hNm hmo
      refine wp_region_held_drew (S := fun w' => w'.rangeAt B21 0 (grCells x) ∧ w'.rangeAt w.heap.size 0 (tbCells (.slice a t.held.length cap) (.slice (some ⟨g, off, none⟩) t.wait.length cap2)) ∧ SeenM w' (w.heap.size + 1) i ((t.wait.take i).map Gr.tx)) (by kernel_rfl) (⟨(fun j v hv => by rw [Nat.zero_add]; exact ((HS21.out).drew).at 0 rfl j hv), (HBt.out _ ((HS21.out).drew).old), HSe.out _ ((HS21.out).drew).old⟩) (fun hHeld => ?_)
      refine tk 0 qPk6_0 (some 17) (yieldsIf_load_mid (by rfl) 29 (.tmp 5) rfl B21 (0) rfl (grCells x) _ (fun _ h => h.1) HUG.out rfl (info_gr)) hHeld ?_
      try simp only [z0, z1, z2, z3]
      refine tn 1 qPk6_1 (fun K hK => ?_)
      go_simp
      go_wp2_with (go_at_call 40; refine (HGr.out _).mono ?_; rintro e w61 ⟨rfl, hb⟩)
      have HS61 := Lib.hid (((HS21.out).drew).calls hb)
      refine hK.out _ _ (⟨(fun j v hv => by rw [Nat.zero_add]; exact (HS61.out).at 0 rfl j hv), (HBt.out _ (HS61.out).old), HSe.out _ (HS61.out).old⟩) (fun hHeld => ?_)
      clear hK K hb
      try simp only [z0, z1, z2, z3]
      refine tk 2 qPk6_2 (some 19) (v := .bool false) (Or.inl ⟨by rfl, ?q402h⟩) hHeld ?q402r
      case q402h => (intro wq hSw; clear hSw; go_simp; try with_reducible rfl)
      try simp only [z0, z1, z2, z3]
      refine tk 3 qPk6_3 (some 20) (v := ?q403v) (Or.inl ⟨by rfl, ?q403h⟩) hHeld ?q403r
      case q403h => (intro wq hSw; clear hSw; go_simp; try with_reducible rfl)
      try simp only [z0, z1, z2, z3]
      refine tk 4 qPk6_4 (some 21) (v := ?q404v) (Or.inl ⟨by rfl, ?q404h⟩) hHeld ?q404r
      case q404h => (intro wq hSw; clear hSw; go_simp; try with_reducible rfl)
      try simp only [z0, z1, z2, z3]
      refine tk 5 qPk6_5 (some 22) (v := ?q405v) (Or.inl ⟨by rfl, ?q405h⟩) hHeld ?q405r
      case q405h => (intro wq hSw; clear hSw; go_simp; try with_reducible rfl)
      try simp only [z0, z1, z2, z3]
      refine tk 6 qPk6_6 (some 23) (v := .int .i64 x.tx) (Or.inl ⟨by rfl, ?q406h⟩) hHeld ?q406r
      case q406h => (intro wq hSw; have lq := (hSw.1) 0 (.int .i64 x.tx) rfl; simp only [Nat.zero_add] at lq; clear hSw; go_simp; try with_reducible rfl)
      try simp only [z0, z1, z2, z3]
      refine tk 7 qPk6_7 (some 24) (v := .bool false) (Or.inl ⟨by rfl, ?q407h⟩) hHeld ?q407r
      case q407h => (intro wq hSw; have lq := seen_look hSw.2.2 HGx.out.tx HMem.out; clear hSw; go_simp; try with_reducible rfl)
      try simp only [z0, z1, z2, z3]
      refine tk 8 qPk6_8 (some 25) (v := ?q408v) (Or.inl ⟨by rfl, ?q408h⟩) hHeld ?q408r
      case q408h => (intro wq hSw; clear hSw; go_simp; try with_reducible rfl)
      try simp only [z0, z1, z2, z3]
      refine tk 9 qPk6_9 (some 26) (v := ?q409v) (Or.inl ⟨by rfl, ?q409h⟩) hHeld ?q409r
      case q409h => (intro wq hSw; clear hSw; go_simp; try with_reducible rfl)
      try simp only [z0, z1, z2, z3]
      refine tk 10 qPk6_10 (some 27) (v := ?q410v) (Or.inl ⟨by rfl, ?q410h⟩) hHeld ?q410r
      case q410h => (intro wq hSw; clear hSw; go_simp; try with_reducible rfl)
      try simp only [z0, z1, z2, z3]
      refine tk 11 qPk6_11 (some 28) (v := .slice a t.held.length cap) (Or.inl ⟨by rfl, ?q411h⟩) hHeld ?q411r
      case q411h => (intro wq hSw; have lq := (hSw.2.1) 0 (.slice a t.held.length cap) rfl; simp only [Nat.zero_add] at lq; clear hSw; go_simp; try with_reducible rfl)
      try simp only [z0, z1, z2, z3]
      refine tk 12 qPk6_12 (some 29) (v := ?q412v) (Or.inl ⟨by rfl, ?q412h⟩) hHeld ?q412r
      case q412h => (intro wq hSw; clear hSw; go_simp; try with_reducible rfl)
      try simp only [z0, z1, z2, z3]
      refine tk 13 qPk6_13 (some 30) (v := .int .i64 x.tx) (Or.inl ⟨by rfl, ?q413h⟩) hHeld ?q413r
      case q413h => (intro wq hSw; have lq := (hSw.1) 0 (.int .i64 x.tx) rfl; simp only [Nat.zero_add] at lq; clear hSw; go_simp; try with_reducible rfl)
      try simp only [z0, z1, z2, z3]
      refine tk 14 qPk6_14 (some 31) (v := ?q414v) (Or.inl ⟨by rfl, ?q414h⟩) hHeld ?q414r
      case q414h => (intro wq hSw; clear hSw; go_simp; try with_reducible rfl)
      try simp only [z0, z1, z2, z3]
      refine tk 15 qPk6_15 (some 32) (yieldsIf_load_mid (by rfl) 27 (.tmp 31) rfl B21 (1) rfl (lkCells x.lock) _ (fun _ h => range_part (h.1) (mid_lk x)) HUK.out rfl (info_lk)) hHeld ?_
      try simp only [z0, z1, z2, z3]
      refine tk 17 qPk6_16 (some 34) (v := ?q416v) (Or.inl ⟨by rfl, ?q416h⟩) hHeld ?q416r
      case q416h => (intro wq hSw; clear hSw; go_simp; try with_reducible rfl)
      try simp only [z0, z1, z2, z3]
      refine tk 18 qPk6_17 (some 35) (v := .int .i64 x.mode) (Or.inl ⟨by rfl, ?q417h⟩) hHeld ?q417r
      case q417h => (intro wq hSw; have lq := (hSw.1) 3 (.int .i64 x.mode) rfl; simp only [Nat.zero_add] at lq; clear hSw; go_simp; try with_reducible rfl)
      try simp only [z0, z1, z2, z3]
      refine tn 16 qPk6_18 (fun K hK => ?_)
      go_simp
      go_wp2_with (go_at_call 41; refine (HMx.out _ (HBw.out _ (HS61.out).old)).mono ?_; rintro e w62 ⟨rfl, hb⟩)
      have HS62 := Lib.hid ((HS61.out).calls hb)
      refine hK.out _ _ (⟨(fun j v hv => by rw [Nat.zero_add]; exact (HS62.out).at 0 rfl j hv), (HBt.out _ (HS62.out).old), HSe.out _ (HS62.out).old⟩) (fun hHeld => ?_)
      clear hK K hb
      try simp only [z0, z1, z2, z3]
      refine tk 19 qPk6_19 (some 36) (v := .bool false) (Or.inl ⟨by rfl, ?q418h⟩) hHeld ?q418r
      case q418h => (intro wq hSw; clear hSw; go_simp; try with_reducible rfl)
      try simp only [z0, z1, z2, z3]
      refine tk 20 qPk6_20 (some 37) (v := ?q419v) (Or.inl ⟨by rfl, ?q419h⟩) hHeld ?q419r
      case q419h => (intro wq hSw; clear hSw; go_simp; try with_reducible rfl)
      try simp only [z0, z1, z2, z3]
      refine wpAnyH_done (by kernel_rfl) ?_ _
      clear hHeld
      have xt : w62.cell? ⟨B21, 0, none⟩ = some (.int .i64 x.tx) := HS62.out.at 0 rfl 0 rfl
      have HSn := Lib.hid (HSe.out _ HS62.out.old)
      go_wp2_with (first | ((with_reducible refine wpList_store_seen (.tmp 38) (.tmp 40) HSn.out HIm.out HGx.out.tx ?_ ?_ ?_); (exact rfl); (exact rfl)))
      intro w90 hsn hgn
      have HF := Lib.hid (HQ.out.next HXi.out HS62.out.old hsn hgn)
      clear hsn hgn xt
      go_wp2_with fail
      go_roundw
      case rel => exact ⟨i + 1, HLt.out, by go_num, by rw [lk_take_snoc HXi.out]; exact wait_snoc HH.out HOk1.out (by rw [HMe.out]; exact HMo2.out) (fun y hy e => HM1.out (List.mem_map.2 ⟨y, hy, e⟩)), HF.out⟩
      case measure => simp [intOf]; try (have := HLt.out; omega)
  ·obtain rfl : i = t.wait.length := by omega
   have HX := Lib.hid (HYes.out (by have := HH.out; rwa [List.take_length] at this))
   clear hlt hi HH
   go_wp2_with fail
   go_ret
   exact ⟨by rw [HX.out]; rfl, HQ.out.old⟩
end Go.Proofs.Ytcnaalbpbalgdaa
/- the program's Valid, Mode, Waiting (locks) -/
namespace Go.Proofs.Ytcnaalbpbalgdaa
open Go.RowKit
set_option maxRecDepth 20000
set_option linter.unusedSimpArgs false
set_option linter.unusedVariables false

theorem ok_parts (t : Tb) : tbOkB t = (decide (t.held.length + t.wait.length ≤ 1024) && (heldB t.held && waitB t.held t.wait)) := by
  rw [Bool.eq_iff_iff, tbOkB_iff, Bool.and_eq_true, Bool.and_eq_true, decide_eq_true_eq, heldB_iff, waitB_iff]
  exact ⟨fun h => ⟨h.few, h.tin.held, h.tin.wait⟩, fun h => ⟨h.1, ⟨h.2.1, h.2.2⟩⟩⟩
set_option maxHeartbeats 4000000 in
theorem plkvalid_any {h v : Value} {t : Tb} {R : List Rng} (w : World) (ht : TbRd h v t R) (hR : RdIn w R) (hg : GoodTb t) :
    Calls Try.prog 12 #[.agg (tbCells h v).toArray] w fun e w' => e = .returned (.bool (tbOkB t)) ∧ Below w.heap.size w w' := by
  obtain ⟨a, cap, rfl, hnc, hcm⟩ := ht.1.shape
  obtain ⟨a2, cap2, rfl, hnc2, hcm2⟩ := ht.2.shape
  have HSz : Hid (∀ W, Calls Try.prog 32 #[.agg (tbCells (.slice a t.held.length cap) (.slice a2 t.wait.length cap2)).toArray] W fun e w' => e = .returned (.int .i64 ((t.held.length : Int) + (t.wait.length : Int))) ∧ Below W.heap.size W w') := fun W => size_any W ht hg
  have HHd : Hid (∀ W, Below w.heap.size w W → Calls Try.prog 33 #[.slice a t.held.length cap] W fun e w' => e = .returned (.bool (heldB t.held)) ∧ Below W.heap.size W w') := fun W hb => validHeld_any t.held _ R W ht.1 (hR.below hb) hg.held hg.few.1
  have HWt : Hid (heldB t.held = true → ∀ W, Below w.heap.size w W → Calls Try.prog 34 #[.agg (tbCells (.slice a t.held.length cap) (.slice a2 t.wait.length cap2)).toArray] W fun e w' => e = .returned (.bool (waitB t.held t.wait)) ∧ Below W.heap.size W w') := fun hh W hb => validWaiting_any W ht (hR.below hb) hg (heldB_iff.1 hh)
  have HV := Lib.hid (ok_parts t)
  clear ht hR hg
  obtain ⟨fs, hu⟩ := under_tb
  have HUT := Lib.hid hu
  clear hu
  have h1 := (Hp.start w).put 25 (tbCells (.slice a t.held.length cap) (.slice a2 t.wait.length cap2))
  have HS0 : Hid (Hp w [.ob w.heap.size 25 (tbCells (.slice a t.held.length cap) (.slice a2 t.wait.length cap2))] (w.alloc (.cells (tbCells (.slice a t.held.length cap) (.slice a2 t.wait.length cap2)).toArray 25))) := h1
  clear h1
  obtain ⟨ok, hok⟩ : ∃ ok, tbOkB t = ok := ⟨_, rfl⟩
  rw [hok] at HV ⊢
  clear hok
  generalize heldB t.held = hd at *
  generalize waitB t.held t.wait = wt at *
  go_enter Try.func12, Try.ntmps12
  go_upto_region 1 with (fail)
  generalize (w.alloc (.cells (tbCells (.slice a t.held.length cap) (.slice a2 t.wait.length cap2)).toArray 25)) = w1 at *
  go_wp2_with (first | ((with_reducible refine wpList_load_ob 25 (.tmp 1) w.heap.size (tbCells (.slice a t.held.length cap) (.slice a2 t.wait.length cap2)) 25 HUT.out ?_ ?_ ?_ ?_ ?_); (exact rfl); (exact HS0.out.get 0 rfl); (exact rfl); (exact info_tb); simp only [Act.put, List.setIfInBounds_toArray, List.set_cons_zero, List.set_cons_succ]) | ((with_reducible refine wpList_load_ob_w 25 (.tmp 1) w.heap.size (tbCells (.slice a t.held.length cap) (.slice a2 t.wait.length cap2)) 25 HUT.out ?_ ?_ ?_ ?_ ?_ ?_); (exact rfl); (exact rfl); (exact HS0.out.get 0 rfl); (exact rfl); (exact info_tb); simp only [Act.put, List.setIfInBounds_toArray, List.set_cons_zero, List.set_cons_succ]))
  refine (HSz.out _).mono ?_
  rintro e w2 ⟨rfl, hb⟩
  have HS1 := Lib.hid (HS0.out.calls hb)
  clear HS0 hb HSz
  by_cases hle : t.held.length + t.wait.length ≤ 1024
  · have hle' : ((t.held.length : Int) + (t.wait.length : Int)) ≤ 1024 := by omega
    have HV2 : Hid (ok = (hd && wt)) := Lib.hid (by rw [HV.out, decide_eq_true hle]; rfl)
    clear hle HV
    have b0 : w2.cell? ⟨w.heap.size, 0, none⟩ = some (.slice a t.held.length cap) := HS1.out.at 0 rfl 0 rfl
    have b1 : w2.cell? ⟨w.heap.size, 1, none⟩ = some (.slice a2 t.wait.length cap2) := HS1.out.at 0 rfl 1 rfl
    go_wp2_with fail
    refine (HHd.out _ HS1.out.old).mono ?_
    rintro e w3 ⟨rfl, hb⟩
    have HS2 := Lib.hid (HS1.out.calls hb)
    clear b0 b1 HS1 hb HHd
    cases hd
    · have HX : Hid (ok = false) := Lib.hid (by rw [HV2.out]; rfl)
      go_wp2_with fail
      go_ret
      exact ⟨by rw [HX.out]; rfl, HS2.out.old⟩
    · have HX : Hid (ok = wt) := Lib.hid (by rw [HV2.out]; rfl)
      have HWu := Lib.hid (HWt.out rfl)
      clear HWt HV2
      go_wp2_with (first | ((with_reducible refine wpList_load_ob 25 (.tmp 1) w.heap.size (tbCells (.slice a t.held.length cap) (.slice a2 t.wait.length cap2)) 25 HUT.out ?_ ?_ ?_ ?_ ?_); (exact rfl); (exact HS2.out.get 0 rfl); (exact rfl); (exact info_tb); simp only [Act.put, List.setIfInBounds_toArray, List.set_cons_zero, List.set_cons_succ]) | ((with_reducible refine wpList_load_ob_w 25 (.tmp 1) w.heap.size (tbCells (.slice a t.held.length cap) (.slice a2 t.wait.length cap2)) 25 HUT.out ?_ ?_ ?_ ?_ ?_ ?_); (exact rfl); (exact rfl); (exact HS2.out.get 0 rfl); (exact rfl); (exact info_tb); simp only [Act.put, List.setIfInBounds_toArray, List.set_cons_zero, List.set_cons_succ]))
      refine (HWu.out _ HS2.out.old).mono ?_
      rintro e w4 ⟨rfl, hb⟩
      have HS3 := Lib.hid (HS2.out.calls hb)
      clear HS2 hb HWu
      go_wp2_with fail
      go_ret
      exact ⟨by rw [HX.out]; rfl, HS3.out.old⟩
  · have hle' : ¬ ((t.held.length : Int) + (t.wait.length : Int)) ≤ 1024 := by omega
    have HX : Hid (ok = false) := Lib.hid (by rw [HV.out, decide_eq_false hle]; rfl)
    clear hle HV
    go_wp2_with fail
    go_ret
    exact ⟨by rw [HX.out]; rfl, HS1.out.old⟩
set_option maxHeartbeats 4000000 in
theorem pMode_any {h v : Value} {t : Tb} {R : List Rng} (tx : Int) (k : Lok) (w : World) (ht : TbRd h v t R) (hR : RdIn w R) (hg : GoodTb t) (hk : GoodLk k) :
    Calls Try.prog 20 #[.agg (tbCells h v).toArray, .int .i64 tx, .agg (lkCells k).toArray] w fun e w' => e = .returned (.int .i64 (modeT t tx k.page k.slot)) ∧ Below w.heap.size w w' := by
  obtain ⟨a, cap, rfl, hnc, hcm⟩ := ht.1.shape
  obtain ⟨a2, cap2, rfl, hnc2, hcm2⟩ := ht.2.shape
  have HVa : Hid (∀ W, Below w.heap.size w W → Calls Try.prog 12 #[.agg (tbCells (.slice a t.held.length cap) (.slice a2 t.wait.length cap2)).toArray] W fun e w' => e = .returned (.bool (tbOkB t)) ∧ Below W.heap.size W w') := fun W hb => plkvalid_any W ht (hR.below hb) hg
  have HMo : Hid (tbOkB t = true → ∀ W, Below w.heap.size w W → Calls Try.prog 41 #[.slice a t.held.length cap, .int .i64 tx, .agg #[.int .i64 k.page, .int .i64 k.slot]] W fun e w' => e = .returned (.int .i64 (modeR t.held tx k.page k.slot)) ∧ Below W.heap.size W w') := fun hh W hb => pmode_any tx k t.held _ R W (tbOkB_iff.1 hh).tin.held.up ht.1 (hR.below hb) (by have := hg.few; omega)
  have HV : Hid (modeT t tx k.page k.slot = if tbOkB t = true then modeR t.held tx k.page k.slot else 0) := rfl
  clear ht hR hg hk
  obtain ⟨fs, hu⟩ := under_tb
  have HUT := Lib.hid hu
  clear hu
  have h1 := ((Hp.start w).put 25 (tbCells (.slice a t.held.length cap) (.slice a2 t.wait.length cap2))).put 27 (lkCells k)
  simp only [World.size_alloc, List.nil_append, List.cons_append] at h1
  have HS0 : Hid (Hp w [.ob w.heap.size 25 (tbCells (.slice a t.held.length cap) (.slice a2 t.wait.length cap2)), .ob (w.heap.size + 1) 27 (lkCells k)] ((w.alloc (.cells (tbCells (.slice a t.held.length cap) (.slice a2 t.wait.length cap2)).toArray 25)).alloc (.cells (lkCells k).toArray 27))) := h1
  clear h1
  generalize tbOkB t = ok at *
  go_enter Try.func20, Try.ntmps20
  go_upto_region 1 with (fail)
  generalize ((w.alloc (.cells (tbCells (.slice a t.held.length cap) (.slice a2 t.wait.length cap2)).toArray 25)).alloc (.cells (lkCells k).toArray 27)) = w1 at *
  generalize w.heap.size + 1 = b2 at *
  go_wp2_with (first | ((with_reducible refine wpList_load_ob 25 (.tmp 3) w.heap.size (tbCells (.slice a t.held.length cap) (.slice a2 t.wait.length cap2)) 25 HUT.out ?_ ?_ ?_ ?_ ?_); (exact rfl); (exact HS0.out.get 0 rfl); (exact rfl); (exact info_tb); simp only [Act.put, List.setIfInBounds_toArray, List.set_cons_zero, List.set_cons_succ]) | ((with_reducible refine wpList_load_ob_w 25 (.tmp 3) w.heap.size (tbCells (.slice a t.held.length cap) (.slice a2 t.wait.length cap2)) 25 HUT.out ?_ ?_ ?_ ?_ ?_ ?_); (exact rfl); (exact rfl); (exact HS0.out.get 0 rfl); (exact rfl); (exact info_tb); simp only [Act.put, List.setIfInBounds_toArray, List.set_cons_zero, List.set_cons_succ]))
  refine (HVa.out _ HS0.out.old).mono ?_
  rintro e w2 ⟨rfl, hb⟩
  have HS1 := Lib.hid (HS0.out.calls hb)
  clear HS0 hb HVa
  cases ok
  · go_wp2_with fail
    go_ret
    exact ⟨by rw [HV.out]; rfl, HS1.out.old⟩
  · have HMp := Lib.hid (HMo.out rfl)
    clear HMo
    have b0 : w2.cell? ⟨w.heap.size, 0, none⟩ = some (.slice a t.held.length cap) := HS1.out.at 0 rfl 0 rfl
    have b1 : w2.cell? ⟨w.heap.size, 1, none⟩ = some (.slice a2 t.wait.length cap2) := HS1.out.at 0 rfl 1 rfl
    have k0 : w2.cell? ⟨b2, 0, none⟩ = some (.int .i64 k.page) := HS1.out.at 1 rfl 0 rfl
    have k1 : w2.cell? ⟨b2, 1, none⟩ = some (.int .i64 k.slot) := HS1.out.at 1 rfl 1 rfl
    go_wp2_with fail
    refine (HMp.out _ HS1.out.old).mono ?_
    rintro e w3 ⟨rfl, hb⟩
    have HS2 := Lib.hid (HS1.out.calls hb)
    clear b0 b1 k0 k1 HS1 hb
    go_wp2_with fail
    go_ret
    exact ⟨by rw [HV.out]; rfl, HS2.out.old⟩
end Go.Proofs.Ytcnaalbpbalgdaa
/- what the program makes to find grants; what a transaction waits for; where a request goes (locks) -/
namespace Go.Proofs.Ytcnaalbpbalgdaa
open Go.RowKit
set_option maxRecDepth 20000
set_option linter.unusedSimpArgs false
set_option linter.unusedVariables false

def FnPost (g : Nat) (cs : List Value) (w : World) (e : Ending) (w' : World) : Prop :=
  ∃ b, e = .returned (.func (.func g) #[] #[.pointer (some ⟨b, 0, none⟩)]) ∧ RdIn w' [(b, 0, cs)] ∧ w.heap.size ≤ b ∧ Below w.heap.size w w'
theorem rd_new {w : World} {t : TypeId} {cs : List Value} : RdIn (w.alloc (.cells cs.toArray t)) [(w.heap.size, 0, cs)] := fun r hr => by
  obtain rfl := List.mem_singleton.1 hr
  refine ⟨by simp, fun j u hu => ?_⟩
  rw [cell_of_row _ _ _ _ _ _ (heap_alloc_last w _), List.getElem?_toArray, Nat.zero_add]
  exact hu
theorem of_any (tx : Int) (w : World) : Calls Try.prog 52 #[.int .i64 tx] w (FnPost 68 [.int .i64 tx] w) := by
  have HE : Hid (FnPost 68 [.int .i64 tx] w (.returned (.func (.func 68) #[] #[.pointer (some ⟨w.heap.size, 0, none⟩)])) (w.alloc (.cells [Value.int .i64 tx].toArray 3))) := ⟨_, rfl, rd_new, Nat.le_refl _, (Below.refl _ _).alloc (Nat.le_refl _) _⟩
  go_enter Try.func52, Try.ntmps52
  go_wp2
  go_ret
  exact HE.out
theorem against_any (g : Gr) (w : World) : Calls Try.prog 63 #[.agg (grCells g).toArray] w (FnPost 73 (grCells g) w) := by
  have HE : Hid (FnPost 73 (grCells g) w (.returned (.func (.func 73) #[] #[.pointer (some ⟨w.heap.size, 0, none⟩)])) (w.alloc (.cells (grCells g).toArray 29))) := ⟨_, rfl, rd_new, Nat.le_refl _, (Below.refl _ _).alloc (Nat.le_refl _) _⟩
  go_enter Try.func63, Try.ntmps63
  go_wp2
  go_ret
  exact HE.out
end Go.Proofs.Ytcnaalbpbalgdaa
/- the program's waiting and Waiting (locks) -/
namespace Go.Proofs.Ytcnaalbpbalgdaa
open Go.RowKit
set_option maxRecDepth 20000
set_option linter.unusedSimpArgs false
set_option linter.unusedVariables false

theorem idxR_neg {α : Type} {p : α → Bool} {l : List α} (h : idxR p l = -1) : l.all (fun x => !p x) = true := by
  unfold idxR at h
  cases hf : l.findIdx? p with
  | none =>
    rw [List.findIdx?_eq_none_iff] at hf
    exact List.all_eq_true.2 (fun x hx => by simpa using hf x hx)
  | some i => rw [hf] at h; simp at h
theorem idxR_pos {α : Type} {p : α → Bool} {l : List α} (h : ¬ idxR p l = -1) : ∃ k, ∃ hk : k < l.length, idxR p l = (k : Int) ∧ (l.take k).all (fun x => !p x) = true ∧ p l[k] = true := by
  unfold idxR at h ⊢
  cases hf : l.findIdx? p with
  | none => rw [hf] at h; exact absurd rfl h
  | some i =>
    have hf' := List.findIdx?_eq_some_iff_getElem.1 hf
    obtain ⟨hi, hx, hb⟩ := hf'
    refine ⟨i, hi, rfl, List.all_eq_true.2 (fun x hx => ?_), hx⟩
    obtain ⟨j, hj, rfl⟩ := List.mem_take_iff_getElem.1 hx
    simpa using hb j (by omega)
theorem wfind_idx (l : List Gr) (tx : Int) : (idxR (fun x : Gr => decide (x.tx = tx)) l = -1 ∧ wfind l tx = none) ∨ ∃ (k : Nat) (x : Gr), k < l.length ∧ l[k]? = some x ∧ idxR (fun x : Gr => decide (x.tx = tx)) l = (k : Int) ∧ wfind l tx = some x := by
  by_cases h : idxR (fun x : Gr => decide (x.tx = tx)) l = -1
  · refine .inl ⟨h, wfind_none_of (fun x hx => ?_)⟩
    have := List.all_eq_true.1 (idxR_neg h) x hx
    simpa using this
  · obtain ⟨k, hk, e, ha, hx⟩ := idxR_pos h
    refine .inr ⟨k, l[k], hk, List.getElem?_eq_getElem hk, e, wfind_first (fun q hq z hz => ?_) (List.getElem?_eq_getElem hk) (by simpa using hx)⟩
    have hm : z ∈ l.take k := by
      obtain ⟨h1, rfl⟩ := List.getElem?_eq_some_iff.1 hz
      exact List.mem_take_iff_getElem.2 ⟨q, by omega, rfl⟩
    have := List.all_eq_true.1 ha z hm
    simpa using this
set_option maxHeartbeats 8000000 in
theorem pwaiting_any {h v : Value} {t : Tb} {R : List Rng} (tx : Int) (w : World) (ht : TbRd h v t R) (hR : RdIn w R) (hg : GoodTb t) :
    Calls Try.prog 39 #[.agg (tbCells h v).toArray, .int .i64 tx] w fun e w' => e = .returned (.tuple #[.agg (grCells ((wfind t.wait tx).getD grNil)).toArray, .bool (wfind t.wait tx).isSome]) ∧ Below w.heap.size w w' := by
  obtain ⟨a, cap, rfl, hnc, hcm⟩ := ht.1.shape
  obtain ⟨a2, cap2, rfl, hnc2, hcm2⟩ := ht.2.shape
  obtain ⟨_, _, e2, _, _, hg0⟩ := SlRd.open ht.2 hR
  cases e2
  have HIx : Hid (∀ b W, Below w.heap.size w W → RdIn W [(b, 0, [.int .i64 tx])] → Calls Try.prog 55 #[.slice a2 t.wait.length cap2, .func (.func 68) #[] #[.pointer (some ⟨b, 0, none⟩)]] W fun e w' => e = .returned (.int .i64 (idxR (fun x : Gr => decide (x.tx = tx)) t.wait)) ∧ Below W.heap.size W w') := fun b W hb hr => idxGr_any _ _ _ t.wait _ R W eg_of ((of_at tx b t.wait).fn hr) ht.2 (hR.below hb) (by have := hg.few; omega)
  have HNw : Hid ((t.wait.length : Int) ≤ 100000) := Lib.hid (by have := hg.few; omega)
  have HWf := Lib.hid (wfind_idx t.wait tx)
  have h1 := (((Hp.start w).put 25 (tbCells (.slice a t.held.length cap) (.slice a2 t.wait.length cap2))).put 29 (grCells grNil))
  simp only [World.size_alloc, List.nil_append, List.cons_append] at h1
  have HS0 : Hid (Hp w [.ob w.heap.size 25 (tbCells (.slice a t.held.length cap) (.slice a2 t.wait.length cap2)), .ob (w.heap.size + 1) 29 (grCells grNil)] ((w.alloc (.cells (tbCells (.slice a t.held.length cap) (.slice a2 t.wait.length cap2)).toArray 25)).alloc (.cells #[.int .i64 0, .int .i64 0, .int .i64 0, .int .i64 0] 29))) := h1
  clear h1 ht hR hg hnc hcm hnc2 hcm2
  obtain ⟨fsHUG, huHUG⟩ := under_gr
  have HUG := Lib.hid huHUG
  clear huHUG
  obtain ⟨fsHUT, huHUT⟩ := under_tb
  have HUT := Lib.hid huHUT
  clear huHUT
  generalize idxR (fun x : Gr => decide (x.tx = tx)) t.wait = ix at *
  obtain ⟨wf, hwf⟩ : ∃ wf, wfind t.wait tx = wf := ⟨_, rfl⟩
  rw [hwf] at HWf ⊢
  clear hwf
  go_enter Try.func39, Try.ntmps39
  go_upto_region 1 with (fail)
  generalize ((w.alloc (.cells (tbCells (.slice a t.held.length cap) (.slice a2 t.wait.length cap2)).toArray 25)).alloc (.cells #[.int .i64 0, .int .i64 0, .int .i64 0, .int .i64 0] 29)) = w1 at *
  generalize w.heap.size + 1 = b3 at *
  refine wp_region_held_drew (S := fun w' => w'.rangeAt w.heap.size 0 (tbCells (.slice a t.held.length cap) (.slice a2 t.wait.length cap2))) (by kernel_rfl) ((fun j v hv => by rw [Nat.zero_add]; exact ((HS0.out).drew).at 0 rfl j hv)) (fun hHeld => ?_)
  refine wpAnyH_take (i := 0) (oi := { dst := some 7, op := Op.fieldAddr 25 (Operand.tmp 2) 1, type := 0, pos := "locks.go:96", after := #[], guard := none }) (v := ?q1v) rfl (by kernel_rfl) (by kernel_rfl) (by kernel_rfl) (fun _ _ _ h => h) (Or.inl ⟨by rfl, ?q1h⟩) hHeld ?q1r
  case q1h => (intro wq hSw; clear hSw; go_simp; try with_reducible rfl)
  try simp only [Act.put, List.setIfInBounds_toArray, List.set_cons_zero, List.set_cons_succ]
  refine wpAnyH_take (i := 1) (oi := { dst := some 8, op := Op.load 23 (Operand.tmp 7), type := 23, pos := "locks.go:96", after := #[{ on := 0, ground := Ground.data }], guard := none }) (v := .slice a2 t.wait.length cap2) rfl (by kernel_rfl) (by kernel_rfl) (by kernel_rfl) (fun _ _ _ h => h) (Or.inl ⟨by rfl, ?q2h⟩) hHeld ?q2r
  case q2h => (intro wq hSw; have lq := (hSw) 1 (.slice a2 t.wait.length cap2) rfl; simp only [Nat.zero_add] at lq; clear hSw; go_simp; try with_reducible rfl)
  try simp only [Act.put, List.setIfInBounds_toArray, List.set_cons_zero, List.set_cons_succ]
  refine wpAnyH_take (i := 2) (oi := { dst := some 9, op := Op.move (Operand.tmp 1), type := 3, pos := "locks.go:96", after := #[], guard := none }) (v := ?q3v) rfl (by kernel_rfl) (by kernel_rfl) (by kernel_rfl) (fun _ _ _ h => h) (Or.inl ⟨by rfl, ?q3h⟩) hHeld ?q3r
  case q3h => (intro wq hSw; clear hSw; go_simp; try with_reducible rfl)
  try simp only [Act.put, List.setIfInBounds_toArray, List.set_cons_zero, List.set_cons_succ]
  refine wpAnyH_ready (rs := [3]) (by kernel_rfl) (by simp) ?_
  refine AllReadyH.cons (o := { dst := some 10, op := Op.call { callee := Callee.value (Operand.func 52), args := #[Operand.tmp 9], argTypes := #[3] }, type := 58, pos := "locks.go:96", after := #[{ on := 2, ground := Ground.data }], guard := none }) rfl (fun K hK => ?_) (AllReadyH.nil)
  go_simp
  go_wp2_with (go_at_call 52; refine (of_any tx _).mono ?_; rintro e w21 ⟨bf, rfl, hin, hnw, hb⟩)
  have HS21 : Hid (Hp w [.ob (w.heap.size) 25 (tbCells (.slice a t.held.length cap) (.slice a2 t.wait.length cap2)), .ob b3 29 (grCells grNil), .rd [(bf, 0, [.int .i64 tx])]] w21) := ((HS0.out).drew).addrd hb [(bf, 0, [.int .i64 tx])] hin (fun r hr => .inl (by obtain rfl := List.mem_singleton.1 hr; exact hnw))
  refine hK.out _ _ ((fun j v hv => by rw [Nat.zero_add]; exact (HS21.out).at 0 rfl j hv)) (fun hHeld => ?_)
  clear hK K hb hin hnw
  try simp only [Act.put, List.setIfInBounds_toArray, List.set_cons_zero, List.set_cons_succ]
  refine wpAnyH_ready (rs := [4]) (by kernel_rfl) (by simp) ?_
  refine AllReadyH.cons (o := { dst := some 11, op := Op.call { callee := Callee.value (Operand.func 55), args := #[Operand.tmp 8, Operand.tmp 10], argTypes := #[23, 58] }, type := 3, pos := "locks.go:96", after := #[{ on := 1, ground := Ground.data }, { on := 3, ground := Ground.data }, { on := 3, ground := Ground.chain }], guard := none }) rfl (fun K hK => ?_) (AllReadyH.nil)
  go_simp
  go_wp2_with (go_at_call 55; refine (HIx.out _ _ (HS21.out).old ((HS21.out).reads 2 rfl)).mono ?_; rintro e w22 ⟨rfl, hb⟩)
  have HS22 : Hid (Hp w [.ob (w.heap.size) 25 (tbCells (.slice a t.held.length cap) (.slice a2 t.wait.length cap2)), .ob b3 29 (grCells grNil), .rd [(bf, 0, [.int .i64 tx])]] w22) := (HS21.out).calls hb
  refine hK.out _ _ ((fun j v hv => by rw [Nat.zero_add]; exact (HS22.out).at 0 rfl j hv)) (fun hHeld => ?_)
  clear hK K hb
  try simp only [Act.put, List.setIfInBounds_toArray, List.set_cons_zero, List.set_cons_succ]
  refine wpAnyH_take (i := 5) (oi := { dst := some 6, op := Op.assign (Operand.tmp 11), type := 3, pos := "locks.go:96", after := #[{ on := 4, ground := Ground.data }, { on := 4, ground := Ground.chain }, { on := 0, ground := Ground.phase }, { on := 1, ground := Ground.phase }, { on := 2, ground := Ground.phase }, { on := 3, ground := Ground.phase }, { on := 4, ground := Ground.phase }], guard := none }) (v := ?q4v) rfl (by kernel_rfl) (by kernel_rfl) (by kernel_rfl) (fun _ _ _ h => h) (Or.inl ⟨by rfl, ?q4h⟩) hHeld ?q4r
  case q4h => (intro wq hSw; clear hSw; go_simp; try with_reducible rfl)
  try simp only [Act.put, List.setIfInBounds_toArray, List.set_cons_zero, List.set_cons_succ]
  refine wpAnyH_done (by kernel_rfl) ?_ _
  clear hHeld HIx
  have HS23 : Hid (Hp w [.ob (w.heap.size) 25 (tbCells (.slice a t.held.length cap) (.slice a2 t.wait.length cap2)), .ob b3 29 (grCells grNil)] w22) := HS22.out.pull [0, 1] rfl (pull_nd HS22.out.nd [0, 1] rfl (by decide))
  clear HS22
  rcases HWf.out with ⟨hix, hwf⟩ | ⟨k, x, hk, hx, hix, hwf⟩
  · subst hix
    subst hwf
    clear HWf
    go_wp2_with (first | ((with_reducible refine wpList_build_v (d := some 19) 29 (.agg (grCells grNil).toArray) ?_ ?_); (intro W; simp only [List.map_toArray, List.map_cons, List.map_nil]; exact build_gr0 W); simp only [Act.put, List.setIfInBounds_toArray, List.set_cons_zero, List.set_cons_succ]) | ((with_reducible refine wpList_store_ob 29 (.tmp 4) b3 (grCells grNil) (grCells grNil) 29 ?_ ?_ ?_ ?_ ?_ ?_ ?_); (exact rfl); (exact rfl); (exact (HS23.out).get 1 rfl); (exact info_gr); (exact rfl); (exact (oneCell_gr _)); skip))
    have HS24 : Hid (Hp w [.ob (w.heap.size) 25 (tbCells (.slice a t.held.length cap) (.slice a2 t.wait.length cap2)), .ob b3 29 (grCells grNil)] (w22.setRow b3 (grCells grNil).toArray)) := (HS23.out).row 1 rfl (grCells grNil)
    clear HS23
    generalize (w22.setRow b3 (grCells grNil).toArray) = w23 at *
    refine bodyPost_ret (results_ob_tmp Try.results39 _ _ b3 (grCells grNil) 29 _ rfl ((HS24.out).get 1 rfl) HUG.out rfl info_gr) rfl ?_
    exact ⟨rfl, (HS24.out).old⟩
  · obtain ⟨g, off, rfl, hr⟩ := hg0.out (by omega)
    have HRg := Lib.hid hr
    have HXi := Lib.hid hx
    have hk0 : (0 : Int) ≤ (k : Int) := by omega
    have hki : (k : Int) < (t.wait.length : Int) := by omega
    subst hix
    subst hwf
    have b1 : w22.cell? ⟨w.heap.size, 1, none⟩ = some (.slice (some ⟨g, off, none⟩) t.wait.length cap2) := (HS23.out).at 0 rfl 1 rfl
    clear hr hx hk hg0 HWf
    go_wp2_with (first | ((with_reducible refine wpList_load_at 29 (.tmp 17) g ((off + k * 4)) (grCells x) HUG.out ?_ ?_ ?_ ?_ ?_); (exact rfl); (exact (elem_rng (HRg.out _ (HS23.out).old) HXi.out)); (exact rfl); (exact info_gr); simp only [Act.put, List.setIfInBounds_toArray, List.set_cons_zero, List.set_cons_succ]) | ((with_reducible refine wpList_store_ob 29 (.tmp 4) b3 (grCells x) (grCells grNil) 29 ?_ ?_ ?_ ?_ ?_ ?_ ?_); (exact rfl); (exact rfl); (exact (HS23.out).get 1 rfl); (exact info_gr); (exact rfl); (exact (oneCell_gr _)); skip))
    have HS64 : Hid (Hp w [.ob (w.heap.size) 25 (tbCells (.slice a t.held.length cap) (.slice (some ⟨g, off, none⟩) t.wait.length cap2)), .ob b3 29 (grCells x)] (w22.setRow b3 (grCells x).toArray)) := (HS23.out).row 1 rfl (grCells x)
    clear HS23
    generalize (w22.setRow b3 (grCells x).toArray) = w63 at *
    refine bodyPost_ret (results_ob_tmp Try.results39 _ _ b3 (grCells x) 29 _ rfl ((HS64.out).get 1 rfl) HUG.out rfl info_gr) rfl ?_
    exact ⟨rfl, (HS64.out).old⟩
end Go.Proofs.Ytcnaalbpbalgdaa
/- the program's Waiting and turn (locks) -/
namespace Go.Proofs.Ytcnaalbpbalgdaa
open Go.RowKit
set_option maxRecDepth 20000
set_option linter.unusedSimpArgs false
set_option linter.unusedVariables false

def passB (h : List Gr) (g : Gr) (x : Gr) : Bool := decide (x.page = g.page) && (decide (x.slot = g.slot) && decide (modeG h x = 0))
theorem up_dec {h : List Gr} (hok : ∀ g ∈ h, GrOk g) (x : Gr) : decide (0 < modeG h x) = !decide (modeG h x = 0) := by
  have := modeR_ge hok x.tx x.page x.slot
  by_cases h0 : modeG h x = 0
  · rw [decide_eq_true h0]
    have : ¬ 0 < modeG h x := by omega
    rw [decide_eq_false this]; rfl
  · rw [decide_eq_false h0]
    have : 0 < modeG h x := by unfold modeG at h0 ⊢; omega
    rw [decide_eq_true this]; rfl
theorem eg_turn : EntersF 59 := enters_of Try.func59 (by kernel_rfl) rfl
set_option maxHeartbeats 4000000 in
theorem turn_at {hv v : Value} (t : Tb) (R : List Rng) (g : Gr) (hg : GoodGr g) (ht : TbRd hv v t R) (hh : HeldOk t.held) (hl : t.held.length ≤ 200000) (b c : Nat) (l : List Gr) (hgo : ∀ x ∈ l, GoodGr x) :
    GrAt 59 #[.pointer (some ⟨b, 0, none⟩), .pointer (some ⟨c, 0, none⟩)] (passB t.held g) l ([(b, 0, grCells g), (c, 0, tbCells hv v)] ++ R) := by
  intro W x hx hR
  have hb := hR (b, 0, grCells g) (by simp)
  have hc := hR (c, 0, tbCells hv v) (by simp)
  have hr : RdIn W R := hR.sub (fun r h => List.mem_append_right _ h)
  obtain ⟨a, cap, rfl, _, _⟩ := ht.1.shape
  have HUp : Hid (∀ V, Below W.heap.size W V → Calls Try.prog 60 #[.slice a t.held.length cap, .agg (grCells x).toArray] V fun e w' => e = .returned (.bool (decide (0 < modeG t.held x))) ∧ Below V.heap.size V w') := fun V h2 => upgrade_any x t.held _ R V hh.up ht.1 (hr.below h2) hl
  have HLtb : Hid (b < W.heap.size) := hb.1
  have HLtc : Hid (c < W.heap.size) := hc.1
  have g1 : W.cell? ⟨b, 1, none⟩ = some (.int .i64 g.page) := hb.2 1 _ rfl
  have g2 : W.cell? ⟨b, 2, none⟩ = some (.int .i64 g.slot) := hb.2 2 _ rfl
  have c0 : W.cell? ⟨c, 0, none⟩ = some (.slice a t.held.length cap) := hc.2 0 _ rfl
  have hq : ∀ W, Sem.run Try.prog (binOp .eql 27 (.agg #[.int .i64 x.page, .int .i64 x.slot]) (.agg #[.int .i64 g.page, .int .i64 g.slot])) W = .ok (.bool (sameV x.lock g.lock)) W := fun W => run_eql (equal_lk x.lock g.lock (hgo x hx).lock hg.lock) W
  have hs := lock_same x g.lock
  have HV : Hid (passB t.held g x = (sameV x.lock g.lock && !decide (0 < modeG t.held x))) := Lib.hid (by unfold passB; rw [hs, up_dec hh.ok, Bool.not_not, Bool.and_assoc])
  have h1 := (Hp.start W).put 29 (grCells x)
  have HS0 : Hid (Hp W [.ob W.heap.size 29 (grCells x)] (W.alloc (.cells (grCells x).toArray 29))) := h1
  clear h1 hR hb hc hg hgo hs hr ht hh hl
  obtain ⟨fs, hu⟩ := under_gr
  have HUG := Lib.hid hu
  clear hu
  generalize sameV x.lock g.lock = q at *
  obtain ⟨pb, hpb⟩ : ∃ pb, passB t.held g x = pb := ⟨_, rfl⟩
  show Calls Try.prog 59 #[.agg (grCells x).toArray, .pointer (some ⟨b, 0, none⟩), .pointer (some ⟨c, 0, none⟩)] W fun e w' => e = .returned (.bool (passB t.held g x)) ∧ Below W.heap.size W w'
  rw [hpb] at HV ⊢
  clear hpb
  generalize decide (0 < modeG t.held x) = up at *
  go_enter Try.func59, Try.ntmps59
  go_upto_region 1 with (fail)
  have x1 : (W.alloc (.cells (grCells x).toArray 29)).cell? ⟨W.heap.size, 1, none⟩ = some (.int .i64 x.page) := HS0.out.at 0 rfl 1 rfl
  have x2 : (W.alloc (.cells (grCells x).toArray 29)).cell? ⟨W.heap.size, 2, none⟩ = some (.int .i64 x.slot) := HS0.out.at 0 rfl 2 rfl
  have dg1 := (HS0.out.old.cell (p := ⟨b, 1, none⟩) HLtb.out).trans g1
  have dg2 := (HS0.out.old.cell (p := ⟨b, 2, none⟩) HLtb.out).trans g2
  have dc0 := (HS0.out.old.cell (p := ⟨c, 0, none⟩) HLtc.out).trans c0
  clear g1 g2 c0
  generalize (W.alloc (.cells (grCells x).toArray 29)) = w1 at *
  cases q
  · have HX : Hid (pb = false) := Lib.hid (by rw [HV.out]; rfl)
    go_wp2_with fail
    go_ret
    exact ⟨by rw [HX.out]; rfl, HS0.out.old⟩
  · have HX : Hid (pb = !up) := Lib.hid (by rw [HV.out]; rfl)
    go_wp2_with (first | ((with_reducible refine wpList_load_ob_w 29 (.tmp 3) W.heap.size (grCells x) 29 HUG.out ?_ ?_ ?_ ?_ ?_ ?_); (exact rfl); (exact rfl); (exact HS0.out.get 0 rfl); (exact rfl); (exact info_gr); simp only [Act.put, List.setIfInBounds_toArray, List.set_cons_zero, List.set_cons_succ]))
    refine (HUp.out _ HS0.out.old).mono ?_
    rintro e w2 ⟨rfl, hb⟩
    have HS1 := Lib.hid (HS0.out.calls hb)
    clear hb x1 x2 dg1 dg2 dc0 HS0
    go_wp2_with fail
    go_ret
    exact ⟨by rw [HX.out]; rfl, HS1.out.old⟩
theorem wplace_idx (h l : List Gr) (g : Gr) : (idxR (passB h g) l = -1 ∧ wplaceR h l g = l.length) ∨ ∃ k : Nat, k < l.length ∧ idxR (passB h g) l = (k : Int) ∧ (wplaceR h l g = if modeG h g = 0 then l.length else k) := by
  by_cases hi : idxR (passB h g) l = -1
  · refine .inl ⟨hi, ?_⟩
    unfold wplaceR
    split
    · rfl
    · rw [List.findIdx_eq_length]
      intro x hx
      have := List.all_eq_true.1 (idxR_neg hi) x hx
      unfold passB at this
      rw [Bool.not_eq_true'] at this
      exact this
  · obtain ⟨k, hk, e, ha, hx⟩ := idxR_pos hi
    refine .inr ⟨k, hk, e, ?_⟩
    unfold wplaceR
    split
    · rfl
    · rw [List.findIdx_eq hk]
      refine ⟨by unfold passB at hx; exact hx, fun j hj => ?_⟩
      have hm : l[j] ∈ l.take k := List.mem_take_iff_getElem.2 ⟨j, by omega, rfl⟩
      have := List.all_eq_true.1 ha _ hm
      unfold passB at this
      rw [Bool.not_eq_true'] at this
      exact this
set_option maxHeartbeats 8000000 in
theorem turn_any {h v : Value} {t : Tb} {R : List Rng} (g : Gr) (w : World) (ht : TbRd h v t R) (hR : RdIn w R) (hg : GoodTb t) (hk : GoodGr g) (hh : HeldOk t.held) :
    Calls Try.prog 44 #[.agg (tbCells h v).toArray, .agg (grCells g).toArray] w fun e w' => e = .returned (.int .i64 (wplaceR t.held t.wait g : Nat)) ∧ Below w.heap.size w w' := by
  obtain ⟨a, cap, rfl, hnc, hcm⟩ := ht.1.shape
  obtain ⟨a2, cap2, rfl, hnc2, hcm2⟩ := ht.2.shape
  have HIx : Hid (∀ b c W, Below w.heap.size w W → RdIn W [(b, 0, grCells g), (c, 0, tbCells (.slice a t.held.length cap) (.slice a2 t.wait.length cap2))] → Calls Try.prog 55 #[.slice a2 t.wait.length cap2, .func (.func 59) #[] #[.pointer (some ⟨b, 0, none⟩), .pointer (some ⟨c, 0, none⟩)]] W fun e w' => e = .returned (.int .i64 (idxR (passB t.held g) t.wait)) ∧ Below W.heap.size W w') := fun b c W hb hr => idxGr_any _ _ _ t.wait _ R W eg_turn ((turn_at t R g hk ht hh (by have := hg.few; omega) b c t.wait hg.wait).fn (hr.append (hR.below hb))) ht.2 (hR.below hb) (by have := hg.few; omega)
  have HUp : Hid (∀ W, Below w.heap.size w W → Calls Try.prog 60 #[.slice a t.held.length cap, .agg (grCells g).toArray] W fun e w' => e = .returned (.bool (decide (0 < modeG t.held g))) ∧ Below W.heap.size W w') := fun W hb => upgrade_any g t.held _ R W hh.up ht.1 (hR.below hb) (by have := hg.few; omega)
  have HUd := Lib.hid (up_dec hh.ok g)
  have HWp := Lib.hid (wplace_idx t.held t.wait g)
  have HNw : Hid ((t.wait.length : Int) ≤ 100000) := Lib.hid (by have := hg.few; omega)
  have h1 := (((Hp.start w).put 25 (tbCells (.slice a t.held.length cap) (.slice a2 t.wait.length cap2))).put 29 (grCells g))
  simp only [World.size_alloc, List.nil_append, List.cons_append] at h1
  have HS0 : Hid (Hp w [.ob w.heap.size 25 (tbCells (.slice a t.held.length cap) (.slice a2 t.wait.length cap2)), .ob (w.heap.size + 1) 29 (grCells g)] ((w.alloc (.cells (tbCells (.slice a t.held.length cap) (.slice a2 t.wait.length cap2)).toArray 25)).alloc (.cells (grCells g).toArray 29))) := h1
  clear h1 ht hR hg hk hh hnc hcm hnc2 hcm2
  obtain ⟨fsHUG, huHUG⟩ := under_gr
  have HUG := Lib.hid huHUG
  clear huHUG
  obtain ⟨fsHUT, huHUT⟩ := under_tb
  have HUT := Lib.hid huHUT
  clear huHUT
  generalize idxR (passB t.held g) t.wait = ix at *
  obtain ⟨wp, hwp⟩ : ∃ wp, wplaceR t.held t.wait g = wp := ⟨_, rfl⟩
  rw [hwp] at HWp ⊢
  clear hwp
  generalize decide (0 < modeG t.held g) = up at *
  go_enter Try.func44, Try.ntmps44
  go_upto_region 1 with (fail)
  generalize ((w.alloc (.cells (tbCells (.slice a t.held.length cap) (.slice a2 t.wait.length cap2)).toArray 25)).alloc (.cells (grCells g).toArray 29)) = w1 at *
  generalize hb3 : w.heap.size + 1 = b3 at *
  have b1 : w1.cell? ⟨w.heap.size, 1, none⟩ = some (.slice a2 t.wait.length cap2) := HS0.out.at 0 rfl 1 rfl
  go_wp2_with fail
  have hrd : RdIn w1 [(b3, 0, grCells g), (w.heap.size, 0, tbCells (.slice a t.held.length cap) (.slice a2 t.wait.length cap2))] := fun r hr => by
    rcases List.mem_cons.1 hr with rfl | hr
    · exact ⟨(HS0.out.lt 1 rfl rfl).2, fun j v hv => by rw [Nat.zero_add]; exact HS0.out.at 1 rfl j hv⟩
    · obtain rfl := List.mem_singleton.1 hr
      exact ⟨(HS0.out.lt 0 rfl rfl).2, fun j v hv => by rw [Nat.zero_add]; exact HS0.out.at 0 rfl j hv⟩
  refine (HIx.out _ _ _ HS0.out.old hrd).mono ?_
  rintro e w2 ⟨rfl, hb⟩
  have HS1 := Lib.hid (HS0.out.calls hb)
  clear hb hrd HIx b1 HS0
  have b0 : w2.cell? ⟨w.heap.size, 0, none⟩ = some (.slice a t.held.length cap) := HS1.out.at 0 rfl 0 rfl
  have b1 : w2.cell? ⟨w.heap.size, 1, none⟩ = some (.slice a2 t.wait.length cap2) := HS1.out.at 0 rfl 1 rfl
  rcases HWp.out with ⟨hix, hwp⟩ | ⟨k, hk, hix, hwp⟩
  · subst hix
    have HX := Lib.hid hwp
    clear hwp HWp HUp
    go_wp2_with fail
    go_ret
    exact ⟨by rw [HX.out]; rfl, HS1.out.old⟩
  · subst hix
    have HX := Lib.hid hwp
    have hk0 : (0 : Int) ≤ (k : Int) := by omega
    clear hwp HWp hk
    go_wp2_with (first | ((with_reducible refine wpList_load_ob_w 29 (.tmp 3) b3 (grCells g) 29 HUG.out ?_ ?_ ?_ ?_ ?_ ?_); (exact rfl); (exact rfl); (exact HS1.out.get 1 rfl); (exact rfl); (exact info_gr); simp only [Act.put, List.setIfInBounds_toArray, List.set_cons_zero, List.set_cons_succ]))
    refine (HUp.out _ HS1.out.old).mono ?_
    rintro e w3 ⟨rfl, hb⟩
    have HS2 := Lib.hid (HS1.out.calls hb)
    clear hb HUp b0 b1 HS1
    have b0 : w3.cell? ⟨w.heap.size, 0, none⟩ = some (.slice a t.held.length cap) := HS2.out.at 0 rfl 0 rfl
    have b1 : w3.cell? ⟨w.heap.size, 1, none⟩ = some (.slice a2 t.wait.length cap2) := HS2.out.at 0 rfl 1 rfl
    cases up
    · have HX2 : Hid (wp = t.wait.length) := Lib.hid (by
        have h := HUd.out
        have h0 : modeG t.held g = 0 := by simpa using h
        rw [HX.out, if_pos h0])
      go_wp2_with fail
      go_ret
      exact ⟨by rw [HX2.out]; rfl, HS2.out.old⟩
    · have HX2 : Hid (wp = k) := Lib.hid (by
        have h := HUd.out
        have h0 : ¬ modeG t.held g = 0 := by simpa using h
        rw [HX.out, if_neg h0])
      go_wp2_with fail
      go_ret
      exact ⟨by rw [HX2.out]; rfl, HS2.out.old⟩
end Go.Proofs.Ytcnaalbpbalgdaa
/- rows of whole elements that are written in place -/
namespace Go.Proofs.Ytcnaalbpbalgdaa
open Go.RowKit
set_option maxRecDepth 20000
set_option linter.unusedSimpArgs false
set_option linter.unusedVariables false

theorem run_inj {a b : World} (h : (Result.ok () a : Result Unit) = .ok () b) : a = b := by injection h
theorem setCells_row {W : World} {g o : Nat} {cs cur : List Value} {t : TypeId} (hg : W.heap[g]? = some (.cells cur.toArray t (0, 0))) (hfit : o + cs.length ≤ cur.length) (h1 : ∀ v ∈ cs, v.oneCell' = true) :
    W.setCells g o cs = W.setRow g (splice cur o cs).toArray := by
  have a := run_storeCells_at Try.prog g o t cs 0 cur.toArray W hg (by simpa using hfit) h1
  have b := run_storeCells_cells (P := Try.prog) g o cs 0 W (fun j hj => by
    rw [Nat.add_zero, cell_of_row W g (o + j) _ _ _ hg, List.getElem?_toArray, List.getElem?_eq_getElem (by omega)]; rfl) (fun j hj => frozen_of_row _ _ _ _ _ hg) h1
  rw [a] at b
  simp only [Nat.add_zero] at b
  rw [← run_inj b]
  unfold splice
  rw [List.append_assoc]
theorem grown_setRow (W : World) (g : Nat) (cs : Array Value) : W.grownBy (W.setRow g cs) (some g) := ⟨rfl, rfl, rfl, by simp [World.setRow], fun k hk hne => setRow_other W g k cs (fun e => hne (by rw [e]))⟩
theorem grown_trans {a b c : World} {r : Option Nat} (h : a.grownBy b r) (k : b.grownBy c r) : a.grownBy c r := ⟨k.os.trans h.os, k.tape.trans h.tape, k.output.trans h.output, Nat.le_trans h.size k.size, fun i hi hne => (k.block i (Nat.lt_of_lt_of_le hi h.size) hne).trans (h.block i hi hne)⟩
theorem grown_below {a b : World} {r : Option Nat} (h : Below a.heap.size a b) : a.grownBy b r := ⟨h.os, h.tape, h.output, h.size, fun k hk _ => h.block k hk⟩
theorem grown_then {a b c : World} {r : Option Nat} (h : a.grownBy b r) (k : Below b.heap.size b c) : a.grownBy c r := grown_trans h (grown_below k)
section
variable {α : Type} {enc : α → List Value} {z : Nat}
def encRow (enc : α → List Value) (ys : List α) : List Value := ys.flatMap enc
theorem encRow_len (hz : ∀ x, (enc x).length = z) : ∀ ys : List α, (encRow enc ys).length = ys.length * z
  | [] => by simp [encRow]
  | y :: l => by
    show (enc y ++ encRow enc l).length = _
    rw [List.length_append, hz, encRow_len hz l, List.length_cons, Nat.add_mul]; omega
theorem encRow_append (a b : List α) : encRow enc (a ++ b) = encRow enc a ++ encRow enc b := List.flatMap_append
theorem encRow_at (hz : ∀ x, (enc x).length = z) (rest : List Value) {ys : List α} {k : Nat} (h : k < ys.length) : ∀ j v, (enc ys[k])[j]? = some v → (encRow enc ys ++ rest)[k * z + j]? = some v := by
  intro j v hv
  have hj := (List.getElem?_eq_some_iff.1 hv).1
  rw [hz] at hj
  have e : ys = ys.take k ++ (ys[k] :: ys.drop (k + 1)) := by rw [List.getElem_cons_drop, List.take_append_drop]
  have e2 : encRow enc ys = encRow enc (ys.take k) ++ (enc ys[k] ++ encRow enc (ys.drop (k + 1))) := by
    conv => lhs; rw [e]
    rw [encRow_append]
    rfl
  have l1 : (encRow enc (ys.take k)).length = k * z := by rw [encRow_len hz, List.length_take, Nat.min_eq_left (by omega)]
  rw [e2, List.append_assoc, List.getElem?_append_right (by omega), l1, Nat.add_sub_cancel_left, List.append_assoc, List.getElem?_append_left (by rw [hz]; exact hj)]
  exact hv
theorem encRow_set (hz : ∀ x, (enc x).length = z) (rest : List Value) {ys : List α} {k : Nat} (h : k < ys.length) (y : α) : splice (encRow enc ys ++ rest) (k * z) (enc y) = encRow enc (ys.set k y) ++ rest := by
  have e : ys = ys.take k ++ (ys[k] :: ys.drop (k + 1)) := by rw [List.getElem_cons_drop, List.take_append_drop]
  have e2 : encRow enc ys = encRow enc (ys.take k) ++ (enc ys[k] ++ encRow enc (ys.drop (k + 1))) := by
    conv => lhs; rw [e]
    rw [encRow_append]
    rfl
  have e3 : encRow enc (ys.set k y) = encRow enc (ys.take k) ++ (enc y ++ encRow enc (ys.drop (k + 1))) := by
    rw [List.set_eq_take_append_cons_drop, if_pos h, encRow_append]
    rfl
  have l1 : (encRow enc (ys.take k)).length = k * z := by rw [encRow_len hz, List.length_take, Nat.min_eq_left (by omega)]
  unfold splice
  rw [e2, e3, hz, List.append_assoc, List.take_append_of_le_length (by omega), List.take_of_length_le (by omega), List.drop_append, l1, List.drop_of_length_le (by omega), List.nil_append, Nat.add_sub_cancel_left, List.append_assoc, List.drop_append, hz, List.drop_of_length_le (by rw [hz]; omega), List.nil_append, Nat.sub_self, List.drop_zero, List.append_assoc, List.append_assoc]
theorem encRow_clear (hz : ∀ x, (enc x).length = z) (rest : List Value) {ys : List α} {i : Nat} (h : i ≤ ys.length) (zr : α) : splice (encRow enc ys ++ rest) (i * z) (encRow enc (List.replicate (ys.length - i) zr)) = encRow enc (ys.take i ++ List.replicate (ys.length - i) zr) ++ rest := by
  have e2 : encRow enc ys = encRow enc (ys.take i) ++ encRow enc (ys.drop i) := by rw [← encRow_append, List.take_append_drop]
  have l1 : (encRow enc (ys.take i)).length = i * z := by rw [encRow_len hz, List.length_take, Nat.min_eq_left h]
  have l2 : (encRow enc (ys.drop i)).length = (ys.length - i) * z := by rw [encRow_len hz, List.length_drop]
  have l3 : (encRow enc (List.replicate (ys.length - i) zr)).length = (ys.length - i) * z := by rw [encRow_len hz, List.length_replicate]
  unfold splice
  rw [encRow_append, e2, l3, List.append_assoc, List.take_append_of_le_length (by omega), List.take_of_length_le (by omega), List.drop_append, l1, List.drop_of_length_le (by omega), List.nil_append, Nat.add_sub_cancel_left, List.drop_append, l2, List.drop_of_length_le (by omega), List.nil_append, Nat.sub_self, List.drop_zero, List.append_assoc]
/-- what a search that strikes elements has done so far -/
structure KeptR (p : α → Bool) (l : List α) (j i : Nat) (ys : List α) : Prop where
  len : ys.length = l.length
  num : i = ((l.take j).filter fun x => !p x).length
  low : ys.take i = (l.take j).filter fun x => !p x
  high : ys.drop j = l.drop j
  lt : i < j
theorem KeptR.start {p : α → Bool} {l : List α} {k : Nat} (hk : k < l.length) (hb : (l.take k).all (fun x => !p x) = true) (hx : p l[k] = true) : KeptR p l (k + 1) k l := by
  have e : (l.take (k + 1)).filter (fun x => !p x) = l.take k := by
    rw [List.take_succ_eq_append_getElem hk, List.filter_append, List.filter_eq_self.2 (List.all_eq_true.1 hb)]
    simp [hx]
  exact ⟨rfl, by rw [e, List.length_take]; omega, e.symm, rfl, Nat.lt_succ_self _⟩
theorem KeptR.at {p : α → Bool} {l : List α} {j i : Nat} {ys : List α} (h : KeptR p l j i ys) (hj : j < l.length) : ys[j]'(by rw [h.len]; exact hj) = l[j] := by
  have := congrArg (fun m => m[0]?) h.high
  simp only [List.getElem?_drop, Nat.add_zero] at this
  rw [List.getElem?_eq_getElem (by rw [h.len]; exact hj), List.getElem?_eq_getElem hj] at this
  exact Option.some.inj this
theorem KeptR.keep {p : α → Bool} {l : List α} {j i : Nat} {ys : List α} (h : KeptR p l j i ys) (hj : j < l.length) (hx : p l[j] = false) : KeptR p l (j + 1) (i + 1) (ys.set i l[j]) := by
  have e : (l.take (j + 1)).filter (fun x => !p x) = (l.take j).filter (fun x => !p x) ++ [l[j]] := by
    rw [List.take_succ_eq_append_getElem hj, List.filter_append]
    simp [hx]
  have hlt := h.lt
  have hlen := h.len
  refine ⟨by rw [List.length_set]; exact hlen, by rw [e, List.length_append, ← h.num]; rfl, ?_, ?_, by omega⟩
  · rw [e, ← h.low, List.take_succ_eq_append_getElem (by rw [List.length_set]; omega), List.getElem_set_self]
    congr 1
    rw [List.take_set_of_le (Nat.le_refl _)]
  · rw [List.drop_set_of_lt (by omega)]
    have := congrArg (List.drop 1) h.high
    rw [List.drop_drop, List.drop_drop] at this
    exact this
theorem KeptR.skip {p : α → Bool} {l : List α} {j i : Nat} {ys : List α} (h : KeptR p l j i ys) (hj : j < l.length) (hx : p l[j] = true) : KeptR p l (j + 1) i ys := by
  have e : (l.take (j + 1)).filter (fun x => !p x) = (l.take j).filter (fun x => !p x) := by
    rw [List.take_succ_eq_append_getElem hj, List.filter_append]
    simp [hx]
  have hlt := h.lt
  refine ⟨h.len, by rw [e]; exact h.num, by rw [e]; exact h.low, ?_, by omega⟩
  have := congrArg (List.drop 1) h.high
  rw [List.drop_drop, List.drop_drop] at this
  exact this
theorem KeptR.done {p : α → Bool} {l : List α} {i : Nat} {ys : List α} (h : KeptR p l l.length i ys) : ys.take i = l.filter (fun x => !p x) ∧ i = (l.filter fun x => !p x).length := by
  have h1 := h.low
  have h2 := h.num
  rw [List.take_length] at h1 h2
  exact ⟨h1, h2⟩
end
/-- a slice of its own, opened: its block's row -/
theorem own_open {α : Type} {enc : α → List Value} {z : Nat} (hz : ∀ x, (enc x).length = z) {B : Nat} {W : World} {e : TypeId} {n : Nat} {l : List α} {v : Value} (h : W.ownsRow B e z v n (encRow enc l)) (hn : n = l.length) (h0 : 0 < z) :
    (v = .slice none 0 0 ∧ l = []) ∨ ∃ g cap rest, v = .slice (some ⟨g, 0, none⟩) l.length cap ∧ B ≤ g ∧ W.heap[g]? = some (.cells (encRow enc l ++ rest).toArray e (0, 0)) ∧ l.length ≤ cap ∧ cap ≤ maxLen ∧ (encRow enc l ++ rest).length = cap * z := by
  subst hn
  rcases h.2 with ⟨hv, h1⟩ | ⟨g, cap, cur, hv, hB, hg, h1, h2, h3, h4⟩
  · exact .inl ⟨hv, List.eq_nil_of_length_eq_zero h1⟩
  · refine .inr ⟨g, cap, cur.toList.drop (l.length * z), hv, hB, ?_, h1, h2, ?_⟩
    · rw [hg, ← h4, List.take_append_drop]
    · rw [← h4, List.take_append_drop]; simpa using h3
theorem own_close {α : Type} {enc : α → List Value} {z : Nat} (hz : ∀ x, (enc x).length = z) {B : Nat} {W : World} {e : TypeId} {g cap : Nat} {l m : List α} {rest : List Value} (hB : B ≤ g) (hg : W.heap[g]? = some (.cells (encRow enc (l ++ m) ++ rest).toArray e (0, 0))) (h1 : l.length ≤ cap) (h2 : cap ≤ maxLen) (h3 : (encRow enc (l ++ m) ++ rest).length = cap * z) :
    W.ownsRow B e z (.slice (some ⟨g, 0, none⟩) l.length cap) l.length (encRow enc l) := by
  refine ⟨encRow_len hz l, .inr ⟨g, cap, _, rfl, hB, hg, h1, h2, by simpa using h3, ?_⟩⟩
  rw [encRow_append, List.append_assoc]
  rw [← encRow_len hz l]
  simp
theorem zero_row {α : Type} {enc : α → List Value} {z : Nat} (hz : ∀ x, (enc x).length = z) (h0 : 0 < z) (zr : α) (zv : Value) (hv : zv.cells.toList = enc zr) (n : Nat) : (Builtin.zeroCells zv.cells n).toList = encRow enc (List.replicate n zr) := by
  have hs : zv.cells.size = z := by rw [← Array.length_toList, hv, hz]
  apply List.ext_getElem
  · rw [encRow_len hz, List.length_replicate]
    simp [Builtin.zeroCells, hs]
  · intro i h1 h2
    rw [encRow_len hz, List.length_replicate] at h2
    have hk : i / z < n := Nat.div_lt_of_lt_mul (by rw [Nat.mul_comm]; exact h2)
    have hm : i % z < z := Nat.mod_lt _ h0
    have hat := encRow_at hz [] (ys := List.replicate n zr) (k := i / z) (by rw [List.length_replicate]; exact hk) (i % z) _ (List.getElem?_eq_getElem (by rw [hz]; exact hm))
    rw [List.append_nil, show i / z * z + i % z = i from by rw [Nat.mul_comm]; exact Nat.div_add_mod i z] at hat
    have e1 := (List.getElem?_eq_some_iff.1 hat).2
    rw [e1]
    simp only [List.getElem_replicate]
    simp only [Builtin.zeroCells, Array.toList_map, List.getElem_map, Array.getElem_toList, Array.getElem_range, hs]
    rw [getElem!_pos zv.cells (i % z) (by rw [hs]; exact hm)]
    have e2 : zv.cells.toList[i % z]'(by rw [Array.length_toList, hs]; exact hm) = (enc zr)[i % z]'(by rw [hz]; exact hm) := by
      simp only [hv]
    rw [← e2, Array.getElem_toList]
/-- what is cleared -/
theorem run_clear_row {α : Type} {enc : α → List Value} {z : Nat} (hz : ∀ x, (enc x).length = z) (h0 : 0 < z) {t e : TypeId} (ht : Try.prog.underlying t = some (.slice e)) (zr : α) (zv : Value) (hv : zv.cells.toList = enc zr) (hzv : ∀ W, (zeroValue e).run Try.prog W = .ok zv W) (W : World) {g i : Nat} {ys : List α} {rest : List Value} (hg : W.heap[g]? = some (.cells (encRow enc ys ++ rest).toArray e (0, 0))) (hi : i < ys.length)
    (h1 : ∀ v ∈ enc zr, v.oneCell' = true) (ty : TypeId) (c : Nat) :
    (Builtin.clear_ #[t] ty #[.slice (some ⟨g, i * z, none⟩) (ys.length - i) c]).run Try.prog W = .ok (.tuple #[]) (W.setRow g (encRow enc (ys.take i ++ List.replicate (ys.length - i) zr) ++ rest).toArray) := by
  have hlen : i * z + (encRow enc (List.replicate (ys.length - i) zr)).length ≤ (encRow enc ys ++ rest).length := by
    rw [encRow_len hz, List.length_replicate, List.length_append, encRow_len hz, ← Nat.add_mul, show i + (ys.length - i) = ys.length from by omega]
    omega
  have hone : ∀ v ∈ encRow enc (List.replicate (ys.length - i) zr), v.oneCell' = true := fun v hv' => by
    obtain ⟨x, hx, hxv⟩ := List.mem_flatMap.1 hv'
    rw [List.eq_of_mem_replicate hx] at hxv
    exact h1 v hxv
  have hst := run_storeCells_at Try.prog g (i * z) e (encRow enc (List.replicate (ys.length - i) zr)) 0 _ W hg (by simpa using hlen) hone
  rw [← encRow_clear hz rest (Nat.le_of_lt hi) zr]
  have hs : ∀ (l : List Value) (o : Nat) (cs : List Value), l.take o ++ cs ++ l.drop (o + cs.length) = splice l o cs := fun l o cs => by unfold splice; rw [List.append_assoc]
  simp only [Nat.add_zero, hs] at hst
  obtain ⟨m, hm⟩ : ∃ m, ys.length - i = m + 1 := ⟨ys.length - i - 1, by omega⟩
  have hzr := zero_row hz h0 zr zv hv (ys.length - i)
  rw [hm] at hst hzr ⊢
  simp [Builtin.clear_, run_underlying ht, hzv, hzr, hst]
theorem row_src {W : World} {g : Nat} {cur cs : List Value} {t : TypeId} (h : W.heap[g]? = some (.cells cur.toArray t (0, 0))) (o : Nat) (hc : ∀ j u, cs[j]? = some u → cur[o + j]? = some u) : ∀ j u, cs[j]? = some u → W.cell? ((⟨g, o, none⟩ : Addr).add j) = some u := fun j u hj => by
  rw [Addr.add_mid, cell_of_row W g (o + j) _ _ _ h, List.getElem?_toArray]
  exact hc j u hj
theorem grRow_enc (l : List Gr) : grRow l = encRow grCells l := rfl
theorem grCells_len (x : Gr) : (grCells x).length = 4 := rfl
end Go.Proofs.Ytcnaalbpbalgdaa
/- the library's DeleteFunc over grants -/
namespace Go.Proofs.Ytcnaalbpbalgdaa
open Go.RowKit
set_option maxRecDepth 20000
set_option linter.unusedSimpArgs false
set_option linter.unusedVariables false

theorem zeroV_gr (W : World) : (zeroValue 29).run Try.prog W = .ok (.agg (grCells grNil).toArray) W := by kernel_rfl
theorem one_grl (x : Gr) : ∀ u ∈ grCells x, u.oneCell' = true := by
  intro u hu
  simp only [grCells, List.mem_cons, List.not_mem_nil, or_false] at hu
  rcases hu with rfl | rfl | rfl | rfl <;> rfl
/-- a function of a fault that answers the same whatever block g holds -/
def GrFnX (gn : Nat) (lb : Array Value) (p : Gr → Bool) (l : List Gr) (g : Option Nat) (w : World) : Prop :=
  ∀ W x, x ∈ l → w.grownBy W g → Calls Try.prog gn (#[.agg (grCells x).toArray] ++ lb) W fun e w' => e = .returned (.bool (p x)) ∧ Below W.heap.size W w'
set_option maxHeartbeats 8000000 in
theorem delGr_row (gn : Nat) (lb : Array Value) (q : Gr → Bool) (l : List Gr) (g cap : Nat) (rest : List Value) (w : World) (eg : EntersF gn) (hp : GrFnX gn lb q l (some g) w) (hl : l.length ≤ 200000) (hcap : l.length ≤ cap) (hcm : cap ≤ maxLen)
    (hg : w.heap[g]? = some (.cells (encRow grCells l ++ rest).toArray 29 (0, 0))) :
    Calls Try.prog 67 #[.slice (some ⟨g, 0, none⟩) l.length cap, .func (.func gn) #[] lb] w fun e w' => e = .returned (.slice (some ⟨g, 0, none⟩) (l.filter fun x => !q x).length cap) ∧
      (∃ m : List Gr, (l.filter (fun x => !q x) ++ m).length = l.length ∧ w'.heap[g]? = some (.cells (encRow grCells (l.filter (fun x => !q x) ++ m) ++ rest).toArray 29 (0, 0))) ∧ w.grownBy w' (some g) := by
  have hlt0 : g < w.heap.size := (Array.getElem?_eq_some_iff.1 hg).1
  have HRow : Hid (∀ (W : World) (ys : List Gr), W.heap[g]? = some (.cells (encRow grCells ys ++ rest).toArray 29 (0, 0)) → ∀ k (h : k < ys.length), W.rangeAt g (k * 4) (grCells ys[k])) := fun W ys hW k h j u hj => by
    rw [cell_of_row W g (k * 4 + j) _ _ _ hW, List.getElem?_toArray]
    exact encRow_at grCells_len rest h j u hj
  have hIx : Calls Try.prog 55 #[.slice (some ⟨g, 0, none⟩) l.length cap, .func (.func gn) #[] lb] w fun e w' => e = .returned (.int .i64 (idxR q l)) ∧ Below w.heap.size w w' :=
    idxGr_any gn lb q l _ [(g, 0, grRow l)] w eg (fun W x hx hb => hp W x hx (grown_below hb)) ⟨_, cap, rfl, encRow_len grCells_len l, hcap, hcm, fun _ => ⟨g, 0, rfl, List.mem_singleton.2 rfl⟩, fun h => by cases h⟩ (fun r hr => by
      obtain rfl := List.mem_singleton.1 hr
      refine ⟨hlt0, fun j u hj => ?_⟩
      have hj' : (encRow grCells l)[j]? = some u := hj
      show w.cell? ⟨g, 0 + j, none⟩ = some u
      rw [cell_of_row w g (0 + j) _ _ _ hg, List.getElem?_toArray, Nat.zero_add, List.getElem?_append_left (List.getElem?_eq_some_iff.1 hj').1]
      exact hj') hl
  have HP := Lib.hid hp
  have HG0 := Lib.hid hg
  have HC : Hid (l.length ≤ cap ∧ cap ≤ maxLen ∧ l.length ≤ 200000 ∧ g < w.heap.size) := ⟨hcap, hcm, hl, hlt0⟩
  obtain ⟨fs, huf⟩ := under_gr
  have HUF := Lib.hid huf
  clear hp hg hcap hcm hl huf hlt0
  unfold EntersF at eg
  by_cases hr : idxR q l = -1
  · have hall := idxR_neg hr
    rw [hr] at hIx
    have HF : Hid (l.filter (fun x => !q x) = l) := List.filter_eq_self.2 (List.all_eq_true.1 hall)
    clear hr hall
    go_enter Try.func67, Try.ntmps67
    go_wp2_with fail
    refine hIx.mono ?_
    rintro e w2 ⟨rfl, hb⟩
    have HB := Lib.hid hb
    clear hb hIx
    go_wp2_with fail
    go_ret
    refine ⟨by rw [HF.out]; rfl, ⟨[], by rw [HF.out, List.append_nil], ?_⟩, grown_below HB.out⟩
    rw [HF.out, List.append_nil]
    exact (HB.out.block _ HC.out.2.2.2).trans HG0.out
  · obtain ⟨k0, hk0, e0, hall, hx⟩ := idxR_pos hr
    have HK0 := Lib.hid (KeptR.start hk0 hall hx)
    have HK1 := Lib.hid hk0
    rw [e0] at hIx
    clear hr e0 hall hx
    have hk01 : ((k0 : Int) == -1) = false := by rw [beq_eq_false_iff_ne]; omega
    have hk0m : (k0 : Int) < 200001 := by have := HC.out; omega
    clear hk0
    go_enter Try.func67, Try.ntmps67
    go_wp2_with fail
    refine hIx.mono ?_
    rintro e w2 ⟨rfl, hb⟩
    have HB : Hid (w.grownBy w2 (some g) ∧ w2.heap[g]? = some (.cells (encRow grCells l ++ rest).toArray 29 (0, 0))) := ⟨grown_below hb, (hb.block _ HC.out.2.2.2).trans HG0.out⟩
    clear hb hIx
    go_wp2_with fail
    go_loopw [5, 6] (fun si sj wr => ∃ (i j : Nat) (ys : List Gr), si = .int .i64 i ∧ sj = .int .i64 j ∧ j ≤ l.length ∧ KeptR q l j i ys ∧ w.grownBy wr (some g) ∧ wr.heap[g]? = some (.cells (encRow grCells ys ++ rest).toArray 29 (0, 0))) (fun _ sj _ => l.length - (intOf sj).toNat)
    case atStart => exact ⟨k0, k0 + 1, l, rfl, by go_num, HK1.out, HK0.out, HB.out.1, HB.out.2⟩
    case round =>
      clear hk01 hk0m
      obtain ⟨i, j, ys, rfl, rfl, hj, hk, hgb, hgr⟩ := hrel
      have HK := Lib.hid hk
      have HGb := Lib.hid hgb
      have HGr := Lib.hid hgr
      clear hk hgb hgr HB
      by_cases hlt : j < l.length
      · have hji : (j : Int) < (l.length : Int) := by omega
        have hj0 : (0 : Int) ≤ (j : Int) := by omega
        have hjm : (j : Int) < 200000 := by have := HC.out; omega
        have hi0 : (0 : Int) ≤ (i : Int) := by omega
        have hil : (i : Int) < (l.length : Int) := by have := HK.out.lt; omega
        have him : (i : Int) < 200000 := by have := HK.out.lt; omega
        obtain ⟨x, hxe⟩ : ∃ x, l[j] = x := ⟨_, rfl⟩
        have HXe := Lib.hid hxe
        have hylen := HK.out.len
        have hjy : j < ys.length := by omega
        have HMid : Hid (wr.rangeAt g (j * 4) (grCells x)) := by
          have h := HRow.out wr ys HGr.out j hjy
          rw [HK.out.at hlt, hxe] at h
          exact h
        have hlw : g < wr.heap.size := Nat.lt_of_lt_of_le HC.out.2.2.2 HGb.out.size
        have HW1 : Hid (Below wr.heap.size wr ((wr.alloc (.cells (grCells grNil).toArray 29)).setRow wr.heap.size (grCells x).toArray)) := below_setRow ((Below.refl _ _).alloc (Nat.le_refl _) _) (Nat.le_refl _) _
        have HV1 : Hid (((wr.alloc (.cells (grCells grNil).toArray 29)).setRow wr.heap.size (grCells x).toArray).heap[wr.heap.size]? = some (.cells (grCells x).toArray 29 (0, 0))) := setRow_heap _ _ _ _ _ _ (heap_alloc_last wr _)
        have HSz1 : Hid (wr.heap.size < ((wr.alloc (.cells (grCells grNil).toArray 29)).setRow wr.heap.size (grCells x).toArray).heap.size) := (Array.getElem?_eq_some_iff.1 HV1.out).1
        have hcall := HP.out _ x (by rw [← hxe]; exact List.getElem_mem hlt) (grown_then HGb.out HW1.out)
        have HYes := Lib.hid (fun h : q x = false => HK.out.keep hlt (by rw [hxe]; exact h))
        have HNo := Lib.hid (fun h : q x = true => HK.out.skip hlt (by rw [hxe]; exact h))
        have HILt : Hid (i < ys.length) := by show _ < _; have := HK.out.lt; omega
        clear hxe hylen hjy hj
        go_wp2_with (first | ((with_reducible refine wpList_load_at 29 (.tmp 24) g (j * 4) (grCells x) HUF.out ?_ ?_ ?_ ?_ ?_); (exact rfl); (exact HMid.out); (exact rfl); (exact info_gr); simp only [Act.put, List.setIfInBounds_toArray, List.set_cons_zero, List.set_cons_succ]) | ((with_reducible refine wpList_alloc_ob 29 (grCells grNil) ?_ ?_); (exact alloc_gr); simp only [Act.put, List.setIfInBounds_toArray, List.set_cons_zero, List.set_cons_succ]) | ((with_reducible refine wpList_store_ob 29 (.tmp 7) wr.heap.size (grCells x) (grCells grNil) 29 ?_ ?_ ?_ ?_ ?_ ?_ ?_); (exact rfl); (exact rfl); (exact heap_alloc_last wr _); (exact info_gr); (exact rfl); (exact oneCell_gr _); skip) | ((with_reducible refine wpList_load_ob 29 (.tmp 7) wr.heap.size (grCells x) 29 HUF.out ?_ ?_ ?_ ?_ ?_); (exact rfl); (exact HV1.out); (exact rfl); (exact info_gr); simp only [Act.put, List.setIfInBounds_toArray, List.set_cons_zero, List.set_cons_succ]))
        refine hcall.mono ?_
        rintro e w3 ⟨rfl, hb⟩
        have HB3 : Hid (w.grownBy w3 (some g)) := grown_then (grown_then HGb.out HW1.out) hb
        have HG3 : Hid (w3.heap[g]? = some (.cells (encRow grCells ys ++ rest).toArray 29 (0, 0))) := ((hb.block g (Nat.lt_trans hlw HSz1.out)).trans (HW1.out.block g hlw)).trans HGr.out
        have HV3 : Hid (w3.heap[wr.heap.size]? = some (.cells (grCells x).toArray 29 (0, 0))) := (hb.block _ HSz1.out).trans HV1.out
        clear hb hcall HW1 HV1 HSz1 HGb HGr HMid hlw
        generalize wr.heap.size = bx at *
        cases hq : q x
        · have HK2 := Lib.hid (HYes.out hq)
          have HTh : Hid (w3.there g (i * 4) (grCells x).toArray.size) := fun t ht => by
            have ht6 : t < 4 := ht
            refine ⟨?_, frozen_of_row _ _ _ _ _ HG3.out⟩
            have h := HRow.out w3 ys HG3.out i HILt.out t _ (List.getElem?_eq_getElem (by rw [grCells_len]; exact ht6))
            rw [h]; rfl
          have HW4 : Hid (w3.setCells g (i * 4) (grCells x).toArray.toList = w3.setRow g (encRow grCells (ys.set i x) ++ rest).toArray) := by
            show _ = _
            rw [show (grCells x).toArray.toList = grCells x from rfl, setCells_row HG3.out (by
              rw [List.length_append, encRow_len grCells_len, grCells_len]
              have := HILt.out
              have h6 : i * 4 + 4 ≤ ys.length * 4 := by omega
              omega) (one_grl x), encRow_set grCells_len rest HILt.out]
          clear HYes HNo
          go_wp2_with (first | ((with_reducible refine wpList_load_ob 29 (.tmp 7) bx (grCells x) 29 HUF.out ?_ ?_ ?_ ?_ ?_); (exact rfl); (exact HV3.out); (exact rfl); (exact info_gr); simp only [Act.put, List.setIfInBounds_toArray, List.set_cons_zero, List.set_cons_succ]) | ((with_reducible refine wpList_store_mid rfl 29 (.tmp 33) (.tmp 32) rfl g (i * 4) (grCells x).toArray ?_ ?_ ?_ ?_ ?_ ?_); (exact rfl); (exact rfl); (exact HTh.out); (exact info_gr); (exact oneCell_gr _); skip))
          go_roundw
          case rel => exact ⟨i + 1, j + 1, ys.set i x, by go_num, by go_num, by omega, by rw [← HXe.out]; exact (by have h := HK2.out; rw [HXe.out] at h ⊢; exact h), by rw [HW4.out]; exact grown_trans HB3.out (grown_setRow _ _ _), by rw [HW4.out]; exact setRow_heap _ _ _ _ _ _ HG3.out⟩
          case measure => simp [intOf]; omega
        · have HK2 := Lib.hid (HNo.out hq)
          clear HYes HNo
          go_wp2_with fail
          go_roundw
          case rel => exact ⟨i, j + 1, ys, rfl, by go_num, by omega, HK2.out, HB3.out, HG3.out⟩
          case measure => simp [intOf]; omega
      · obtain rfl : j = l.length := by omega
        have hilt : i < l.length := HK.out.lt
        have hic : ¬ (cap = i) := by have := HC.out; omega
        have hil : (i : Int) ≤ (l.length : Int) := by omega
        have hi0 : (0 : Int) ≤ (i : Int) := by omega
        have hcl0 : (i : Int) ≤ (cap : Int) := by have := HC.out; omega
        have hcl := fun ty c => run_clear_row (t := 23) grCells_len (by decide) Try.underlying23 grNil (.agg (grCells grNil).toArray) rfl zeroV_gr wr HGr.out (i := i) (by rw [HK.out.len]; exact hilt) (one_grl _) ty c
        rw [HK.out.len] at hcl
        clear hlt
        go_wp2_with fail
        go_ret
        obtain ⟨h1, h2⟩ := HK.out.done
        refine ⟨by rw [← h2]; rfl, ⟨List.replicate (l.length - i) grNil, ?_, ?_⟩, grown_trans HGb.out (grown_setRow _ _ _)⟩
        · rw [List.length_append, ← h2, List.length_replicate]; omega
        · rw [← h1]; exact setRow_heap _ _ _ _ _ _ HGr.out
set_option maxHeartbeats 4000000 in
theorem delGr_own (gn : Nat) (lb : Array Value) (q : Gr → Bool) (l : List Gr) (v : Value) (B0 : Nat) (w : World) (eg : EntersF gn) (own : w.ownsRow B0 29 4 v l.length (grRow l)) (hp : GrFnX gn lb q l v.ownBlock w) (hl : l.length ≤ 200000) :
    Calls Try.prog 67 #[v, .func (.func gn) #[] lb] w fun e w' => ∃ v', e = .returned v' ∧ w'.ownsRow B0 29 4 v' (l.filter fun x => !q x).length (grRow (l.filter fun x => !q x)) ∧ w.grownBy w' v.ownBlock ∧ v'.ownBlock = v.ownBlock := by
  have own' := own
  rw [grRow_enc] at own'
  rcases own_open grCells_len own' rfl (by decide) with ⟨rfl, rfl⟩ | ⟨g, cap, rest, rfl, hB, hg, h1, h2, h3⟩
  · have hIx := idxGr_any gn lb q [] (.slice none 0 0) [] w eg (fun W x hx => by cases hx) (SlRd.nil 4 []) (RdIn.nil w) (by simp)
    have e0 : idxR q ([] : List Gr) = -1 := idxR_none rfl
    rw [e0] at hIx
    clear own own' hp hl e0
    go_enter Try.func67, Try.ntmps67
    go_wp2_with fail
    refine hIx.mono ?_
    rintro e w2 ⟨rfl, hb⟩
    clear hIx
    have HB := Lib.hid hb
    clear hb
    go_wp2_with fail
    go_ret
    exact ⟨_, rfl, ⟨by simp [grRow], .inl ⟨rfl, by simp⟩⟩, grown_below HB.out, rfl⟩
  · refine (delGr_row gn lb q l g cap rest w eg hp hl h1 h2 hg).mono ?_
    rintro e w2 ⟨rfl, ⟨m, hm1, hm2⟩, hgr⟩
    refine ⟨_, rfl, ?_, hgr, rfl⟩
    rw [grRow_enc]
    refine own_close grCells_len hB hm2 (Nat.le_trans (List.length_filter_le _ _) h1) h2 ?_
    rw [List.length_append, encRow_len grCells_len, hm1]
    rw [List.length_append, encRow_len grCells_len] at h3
    exact h3
end Go.Proofs.Ytcnaalbpbalgdaa
