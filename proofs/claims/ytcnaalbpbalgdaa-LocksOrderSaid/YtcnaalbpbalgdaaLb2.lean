/- texts of a claim, one after the other: the program's size and validHeld (locks), a set of numbers in a map that the walk has made: which numbers it has, the program's validWaiting (locks), the program's Valid, Mode, Waiting (locks), what the program makes to find grants; what a transaction waits for; where a request goes (locks), the program's waiting and Waiting (locks), the program's Waiting and turn (locks), rows of whole elements that are written in place, the library's DeleteFunc over grants, the library's copy of grants -/
import Derived.Test.YtcnaalbpbalgdaaLb1
import Derived.Maps.Own
import Derived.Maps.OwnSet
import Derived.Deep.CutBlock
import Derived.Lib.SliceRun
import Derived.WalkSpells
/- the program's size and validHeld (locks) -/
namespace Go.Proofs.Ytcnaalbpbalgdaa
open Go.RowKit
set_option maxRecDepth 20000
set_option linter.unusedSimpArgs false
set_option linter.unusedVariables false

theorem adj_free {a : List Gr} {x y : Gr} (h : HeldOk a) (hy : a.getLast? = some y) (hu : GLt y x) (hc : ¬ Conf y x) : ∀ z ∈ a, ¬ Conf z x := by
  obtain ⟨b, rfl⟩ : ∃ b, a = b ++ [y] := by
    rw [List.getLast?_eq_some_iff] at hy
    exact hy
  intro z hz hcf
  rcases List.mem_append.1 hz with hz | hz
  · have h1 := (List.pairwise_append.1 h.up).2.2 z hz y (by simp)
    have h2 := (List.pairwise_append.1 h.free).2.2 z hz y (by simp)
    unfold Conf at h2 hc hcf
    unfold GLt at h1 hu
    omega
  · obtain rfl : z = y := by simpa using hz
    exact hc hcf
noncomputable def heldB (l : List Gr) : Bool := @decide (HeldOk l) (Classical.propDecidable _)
theorem heldB_iff {l : List Gr} : heldB l = true ↔ HeldOk l := @decide_eq_true_iff _ (Classical.propDecidable _)
theorem heldB_no {l : List Gr} (h : ¬ HeldOk l) : heldB l = false := by
  cases e : heldB l with
  | false => rfl
  | true => exact absurd (heldB_iff.1 e) h
theorem heldB_yes {l : List Gr} (h : HeldOk l) : heldB l = true := heldB_iff.2 h
theorem h_grant {l : List Gr} {i : Nat} {x : Gr} (hx : l[i]? = some x) (h : grOkB x = false) : heldB l = false := heldB_no fun k => by
  have := grOkB_iff.2 (k.ok x (List.mem_of_getElem? hx)); rw [h] at this; cases this
theorem h_less {l : List Gr} {i p : Nat} {x y : Gr} (hx : l[i]? = some x) (hip : i = p + 1) (hy : l[p]? = some y) (h : ¬ GLt y x) : heldB l = false := heldB_no fun k => by
  obtain ⟨h1, rfl⟩ := List.getElem?_eq_some_iff.1 hx
  obtain ⟨h2, rfl⟩ := List.getElem?_eq_some_iff.1 hy
  exact h (List.pairwise_iff_getElem.1 k.up p i h2 h1 (by omega))
theorem h_conf {l : List Gr} {i p : Nat} {x y : Gr} (hx : l[i]? = some x) (hip : i = p + 1) (hy : l[p]? = some y) (h : Conf y x) : heldB l = false := heldB_no fun k => by
  obtain ⟨h1, rfl⟩ := List.getElem?_eq_some_iff.1 hx
  obtain ⟨h2, rfl⟩ := List.getElem?_eq_some_iff.1 hy
  exact (List.pairwise_iff_getElem.1 k.free p i h2 h1 (by omega)) h
set_option maxHeartbeats 4000000 in
theorem size_any {h v : Value} {t : Tb} {R : List Rng} (w : World) (ht : TbRd h v t R) (hg : GoodTb t) :
    Calls Try.prog 32 #[.agg (tbCells h v).toArray] w fun e w' => e = .returned (.int .i64 ((t.held.length : Int) + (t.wait.length : Int))) ∧ Below w.heap.size w w' := by
  obtain ⟨a, cap, rfl, hnc, hcm⟩ := ht.1.shape
  obtain ⟨a2, cap2, rfl, hnc2, hcm2⟩ := ht.2.shape
  have h1 := (Hp.start w).put 25 (tbCells (.slice a t.held.length cap) (.slice a2 t.wait.length cap2))
  have HS0 : Hid (Hp w [.ob w.heap.size 25 (tbCells (.slice a t.held.length cap) (.slice a2 t.wait.length cap2))] (w.alloc (.cells (tbCells (.slice a t.held.length cap) (.slice a2 t.wait.length cap2)).toArray 25))) := h1
  have hfew := hg.few
  have hsum : IntKind.i64.wrap ((t.held.length : Int) + (t.wait.length : Int)) = (t.held.length : Int) + (t.wait.length : Int) := IntWalk.i64_in _ (by omega)
  clear h1 ht hg hfew
  go_enter Try.func32, Try.ntmps32
  go_upto_region 1 with (fail)
  generalize (w.alloc (.cells (tbCells (.slice a t.held.length cap) (.slice a2 t.wait.length cap2)).toArray 25)) = w1 at *
  have b0 : w1.cell? ⟨w.heap.size, 0, none⟩ = some (.slice a t.held.length cap) := HS0.out.at 0 rfl 0 rfl
  have b1 : w1.cell? ⟨w.heap.size, 1, none⟩ = some (.slice a2 t.wait.length cap2) := HS0.out.at 0 rfl 1 rfl
  go_wp2_with fail
  go_ret
  exact ⟨rfl, HS0.out.old⟩
set_option maxHeartbeats 8000000 in
theorem validHeld_any (l : List Gr) (v : Value) (R : List Rng) (w : World) (hv : GrRd v l R) (hR : RdIn w R) (hgo : ∀ g ∈ l, GoodGr g) (hl : l.length ≤ 100000) :
    Calls Try.prog 33 #[v] w fun e w' => e = .returned (.bool (heldB l)) ∧ Below w.heap.size w w' := by
  obtain ⟨a, cap, rfl, hnc, hcm, hg0⟩ := SlRd.open hv hR
  have HGe := Lib.hid hgo
  have HNg : Hid (∀ (i : Nat) (x : Gr), l[i]? = some x → grOkB x = false → heldB l = false) := fun i x => h_grant
  have HNl : Hid (∀ (i p : Nat) (x y : Gr), l[i]? = some x → i = p + 1 → l[p]? = some y → ¬ GLt y x → heldB l = false) := fun i p x y => h_less
  have HNc : Hid (∀ (i p : Nat) (x y : Gr), l[i]? = some x → i = p + 1 → l[p]? = some y → Conf y x → heldB l = false) := fun i p x y => h_conf
  have HYes : Hid (HeldOk l → heldB l = true) := heldB_yes
  have HN : Hid ((l.length : Int) ≤ 100000) := Lib.hid (by omega)
  have HS0 := Lib.hid (Hp.start w)
  clear hv hR hgo hl hnc hcm
  obtain ⟨fs, hu⟩ := under_gr
  have HUG := Lib.hid hu
  clear hu
  generalize heldB l = ok at *
  go_enter Try.func33, Try.ntmps33
  go_wp2_with fail
  go_loopw [7] (fun iv wr => ∃ i : Nat, i ≤ l.length ∧ iv = .int .i64 i ∧ HeldOk (l.take i) ∧ Hp w [] wr) (fun iv _ => l.length - (intOf iv).toNat)
  case atStart => exact ⟨0, by omega, rfl, heldOk_nil, HS0.out⟩
  case round =>
    clear HS0
    obtain ⟨i, hi, rfl, hh, hs⟩ := hrel
    have HY := Lib.hid hs
    have HH := Lib.hid hh
    clear hs hh
    by_cases hlt : i < l.length
    · obtain ⟨g, off, rfl, hr⟩ := hg0.out (by omega)
      have HRg := Lib.hid hr
      obtain ⟨x, hx⟩ : ∃ x, l[i]? = some x := ⟨_, List.getElem?_eq_getElem hlt⟩
      have HXi := Lib.hid hx
      have HGx := Lib.hid (HGe.out x (List.mem_of_getElem? hx))
      have HGr : Hid (∀ W, Calls Try.prog 40 #[.agg (grCells x).toArray] W fun e w' => e = .returned (.bool (grOkB x)) ∧ Below W.heap.size W w') := fun W => pgrant_any x W
      have HOx := Lib.hid (@grOkB_iff x)
      have hNx := HNg.out i x hx
      have hii : (i : Int) < (l.length : Int) := by omega
      have hi0 : (0 : Int) ≤ (i : Int) := by omega
      have hiw : IntKind.i64.wrap ((i : Int) + 1) = (i : Int) + 1 := IntWalk.i64_in _ (by have := HN.out; omega)
      have HLt := Lib.hid hlt
      clear hr hi hx hg0
      go_upto_region 4 with (first | ((with_reducible refine wpList_load_at 29 (.tmp 10) g ((off + i * 4)) (grCells x) HUG.out ?_ ?_ ?_ ?_ ?_); (exact rfl); (exact (elem_rng (HRg.out _ (HY.out).old) HXi.out)); (exact rfl); (exact info_gr); simp only [Act.put, List.setIfInBounds_toArray, List.set_cons_zero, List.set_cons_succ]) | ((with_reducible refine wpList_alloc_ob 29 (grCells grNil) ?_ ?_); (exact alloc_gr); simp only [Act.put, List.setIfInBounds_toArray, List.set_cons_zero, List.set_cons_succ]) | ((with_reducible refine wpList_store_ob 29 (.tmp 4) (wr.heap.size) (grCells x) (grCells grNil) 29 ?_ ?_ ?_ ?_ ?_ ?_ ?_); (exact rfl); (exact rfl); (exact ((HY.out).put 29 (grCells grNil)).get 0 rfl); (exact info_gr); (exact rfl); (exact (oneCell_gr _)); skip))
      have HS21 : Hid (Hp w [.ob (wr.heap.size) 29 (grCells x)] ((wr.alloc (.cells (grCells grNil).toArray 29)).setRow (wr.heap.size) (grCells x).toArray)) := ((HY.out).put 29 (grCells grNil)).row 0 rfl (grCells x)
      clear HY
      generalize ((wr.alloc (.cells (grCells grNil).toArray 29)).setRow (wr.heap.size) (grCells x).toArray) = w21 at *
      generalize wr.heap.size = B21 at *
      generalize grOkB x = gb at *
      cases gb
      case false =>
        have HX := Lib.hid (hNx rfl)
        clear hNx HOx
        refine wp_region_held_drew (S := fun w' => w'.rangeAt B21 0 (grCells x)) (by kernel_rfl) ((fun j v hv => by rw [Nat.zero_add]; exact ((HS21.out).drew).at 0 rfl j hv)) (fun hHeld => ?_)
        refine wpAnyH_take (i := 0) (oi := { dst := some 12, op := Op.load 29 (Operand.tmp 4), type := 29, pos := "locks.go:60", after := #[], guard := none }) rfl (by kernel_rfl) (by kernel_rfl) (by kernel_rfl) (fun _ _ _ h => h) (yieldsIf_load_mid (by rfl) 29 (.tmp 4) rfl B21 (0) rfl (grCells x) _ (fun _ h => h) HUG.out rfl (info_gr)) hHeld ?_
        try simp only [Act.put, List.setIfInBounds_toArray, List.set_cons_zero, List.set_cons_succ]
        refine wpAnyH_ready (rs := [1]) (by kernel_rfl) (by simp) ?_
        refine AllReadyH.cons (o := { dst := some 13, op := Op.call { callee := Callee.value (Operand.func 40), args := #[Operand.tmp 12], argTypes := #[29] }, type := 4, pos := "locks.go:60", after := #[{ on := 0, ground := Ground.data }], guard := none }) rfl (fun K hK => ?_) (AllReadyH.nil)
        go_simp
        go_wp2_with (go_at_call 40; refine (HGr.out _).mono ?_; rintro e w61 ⟨rfl, hb⟩)
        have HS61 : Hid (Hp w [.ob B21 29 (grCells x)] w61) := ((HS21.out).drew).calls hb
        refine hK.out _ _ ((fun j v hv => by rw [Nat.zero_add]; exact (HS61.out).at 0 rfl j hv)) (fun hHeld => ?_)
        clear hK K hb
        try simp only [Act.put, List.setIfInBounds_toArray, List.set_cons_zero, List.set_cons_succ]
        refine wpAnyH_take (i := 2) (oi := { dst := some 14, op := Op.unOp UnOp.not 4 (Operand.tmp 13), type := 4, pos := "locks.go:60", after := #[{ on := 1, ground := Ground.data }], guard := none }) (v := .bool true) rfl (by kernel_rfl) (by kernel_rfl) (by kernel_rfl) (fun _ _ _ h => h) (Or.inl ⟨by rfl, ?q102h⟩) hHeld ?q102r
        case q102h => (intro wq hSw; clear hSw; go_simp; try with_reducible rfl)
        try simp only [Act.put, List.setIfInBounds_toArray, List.set_cons_zero, List.set_cons_succ]
        refine wpAnyH_take (i := 3) (oi := { dst := some 15, op := Op.move (Operand.tmp 14), type := 4, pos := "locks.go:60", after := #[{ on := 2, ground := Ground.data }, { on := 1, ground := Ground.chain }], guard := none }) (v := .bool true) rfl (by kernel_rfl) (by kernel_rfl) (by kernel_rfl) (fun _ _ _ h => h) (Or.inl ⟨by rfl, ?q103h⟩) hHeld ?q103r
        case q103h => (intro wq hSw; clear hSw; go_simp; try with_reducible rfl)
        try simp only [Act.put, List.setIfInBounds_toArray, List.set_cons_zero, List.set_cons_succ]
        refine wpAnyH_take (i := 4) (oi := { dst := some 16, op := Op.move (Operand.tmp 3), type := 3, pos := "locks.go:60", after := #[{ on := 3, ground := Ground.guard }], guard := some (3, false) }) (v := undef) rfl (by kernel_rfl) (by kernel_rfl) (by kernel_rfl) (fun _ _ _ h => h) (Or.inr ⟨by rfl, rfl⟩) hHeld ?_
        try simp only [Act.put, List.setIfInBounds_toArray, List.set_cons_zero, List.set_cons_succ]
        refine wpAnyH_take (i := 5) (oi := { dst := some 17, op := Op.binOp BinOp.gtr 3 (Operand.tmp 16) (Operand.const (Value.int IntKind.i64 0)) 3, type := 4, pos := "locks.go:60", after := #[{ on := 4, ground := Ground.data }, { on := 3, ground := Ground.guard }], guard := some (3, false) }) (v := undef) rfl (by kernel_rfl) (by kernel_rfl) (by kernel_rfl) (fun _ _ _ h => h) (Or.inr ⟨by rfl, rfl⟩) hHeld ?_
        try simp only [Act.put, List.setIfInBounds_toArray, List.set_cons_zero, List.set_cons_succ]
        refine wpAnyH_take (i := 6) (oi := { dst := some 18, op := Op.move (Operand.tmp 17), type := 4, pos := "locks.go:60", after := #[{ on := 5, ground := Ground.data }, { on := 3, ground := Ground.chain }, { on := 3, ground := Ground.guard }], guard := some (3, false) }) (v := undef) rfl (by kernel_rfl) (by kernel_rfl) (by kernel_rfl) (fun _ _ _ h => h) (Or.inr ⟨by rfl, rfl⟩) hHeld ?_
        try simp only [Act.put, List.setIfInBounds_toArray, List.set_cons_zero, List.set_cons_succ]
        refine wpAnyH_take (i := 7) (oi := { dst := some 19, op := Op.move (Operand.tmp 0), type := 23, pos := "locks.go:60", after := #[{ on := 6, ground := Ground.guard }], guard := some (6, true) }) (v := undef) rfl (by kernel_rfl) (by kernel_rfl) (by kernel_rfl) (fun _ _ _ h => h) (Or.inr ⟨by rfl, rfl⟩) hHeld ?_
        try simp only [Act.put, List.setIfInBounds_toArray, List.set_cons_zero, List.set_cons_succ]
        refine wpAnyH_take (i := 8) (oi := { dst := some 20, op := Op.move (Operand.tmp 3), type := 3, pos := "locks.go:60", after := #[{ on := 6, ground := Ground.guard }], guard := some (6, true) }) (v := undef) rfl (by kernel_rfl) (by kernel_rfl) (by kernel_rfl) (fun _ _ _ h => h) (Or.inr ⟨by rfl, rfl⟩) hHeld ?_
        try simp only [Act.put, List.setIfInBounds_toArray, List.set_cons_zero, List.set_cons_succ]
        refine wpAnyH_take (i := 9) (oi := { dst := some 21, op := Op.binOp BinOp.sub 3 (Operand.tmp 20) (Operand.const (Value.int IntKind.i64 1)) 3, type := 3, pos := "locks.go:60", after := #[{ on := 8, ground := Ground.data }, { on := 6, ground := Ground.guard }], guard := some (6, true) }) (v := undef) rfl (by kernel_rfl) (by kernel_rfl) (by kernel_rfl) (fun _ _ _ h => h) (Or.inr ⟨by rfl, rfl⟩) hHeld ?_
        try simp only [Act.put, List.setIfInBounds_toArray, List.set_cons_zero, List.set_cons_succ]
        refine wpAnyH_take (i := 10) (oi := { dst := some 22, op := Op.indexAddr 23 (Operand.tmp 19) (Operand.tmp 21), type := 0, pos := "locks.go:60", after := #[{ on := 7, ground := Ground.data }, { on := 9, ground := Ground.data }, { on := 6, ground := Ground.guard }], guard := some (6, true) }) (v := undef) rfl (by kernel_rfl) (by kernel_rfl) (by kernel_rfl) (fun _ _ _ h => h) (Or.inr ⟨by rfl, rfl⟩) hHeld ?_
        try simp only [Act.put, List.setIfInBounds_toArray, List.set_cons_zero, List.set_cons_succ]
        refine wpAnyH_take (i := 11) (oi := { dst := some 23, op := Op.load 29 (Operand.tmp 22), type := 29, pos := "locks.go:60", after := #[{ on := 10, ground := Ground.data }, { on := 6, ground := Ground.guard }], guard := some (6, true) }) (v := undef) rfl (by kernel_rfl) (by kernel_rfl) (by kernel_rfl) (fun _ _ _ h => h) (Or.inr ⟨by rfl, rfl⟩) hHeld ?_
        try simp only [Act.put, List.setIfInBounds_toArray, List.set_cons_zero, List.set_cons_succ]
        refine wpAnyH_take (i := 12) (oi := { dst := some 24, op := Op.load 29 (Operand.tmp 4), type := 29, pos := "locks.go:60", after := #[{ on := 6, ground := Ground.guard }], guard := some (6, true) }) (v := undef) rfl (by kernel_rfl) (by kernel_rfl) (by kernel_rfl) (fun _ _ _ h => h) (Or.inr ⟨by rfl, rfl⟩) hHeld ?_
        try simp only [Act.put, List.setIfInBounds_toArray, List.set_cons_zero, List.set_cons_succ]
        refine wpAnyH_ready (rs := [13]) (by kernel_rfl) (by simp) ?_
        refine AllReadyH.cons (o := { dst := some 25, op := Op.call { callee := Callee.value (Operand.func 53), args := #[Operand.tmp 23, Operand.tmp 24], argTypes := #[29, 29] }, type := 3, pos := "locks.go:60", after := #[{ on := 11, ground := Ground.data }, { on := 12, ground := Ground.data }, { on := 6, ground := Ground.chain }, { on := 6, ground := Ground.guard }], guard := some (6, true) }) rfl (fun K hK => ?_) (AllReadyH.nil)
        rw [if_neg (by exact Bool.false_ne_true)]
        have HS62 : Hid (Hp w [.ob B21 29 (grCells x)] w61) := HS61.out
        refine hK.out _ _ ((fun j v hv => by rw [Nat.zero_add]; exact (HS62.out).at 0 rfl j hv)) (fun hHeld => ?_)
        clear hK K
        try simp only [Act.put, List.setIfInBounds_toArray, List.set_cons_zero, List.set_cons_succ]
        refine wpAnyH_take (i := 14) (oi := { dst := some 26, op := Op.binOp BinOp.geq 3 (Operand.tmp 25) (Operand.const (Value.int IntKind.i64 0)) 3, type := 4, pos := "locks.go:60", after := #[{ on := 13, ground := Ground.data }, { on := 6, ground := Ground.guard }], guard := some (6, true) }) (v := undef) rfl (by kernel_rfl) (by kernel_rfl) (by kernel_rfl) (fun _ _ _ h => h) (Or.inr ⟨by rfl, rfl⟩) hHeld ?_
        try simp only [Act.put, List.setIfInBounds_toArray, List.set_cons_zero, List.set_cons_succ]
        refine wpAnyH_take (i := 15) (oi := { dst := some 27, op := Op.move (Operand.tmp 26), type := 4, pos := "locks.go:60", after := #[{ on := 14, ground := Ground.data }, { on := 13, ground := Ground.chain }, { on := 6, ground := Ground.guard }], guard := some (6, true) }) (v := undef) rfl (by kernel_rfl) (by kernel_rfl) (by kernel_rfl) (fun _ _ _ h => h) (Or.inr ⟨by rfl, rfl⟩) hHeld ?_
        try simp only [Act.put, List.setIfInBounds_toArray, List.set_cons_zero, List.set_cons_succ]
        refine wpAnyH_take (i := 16) (oi := { dst := some 28, op := Op.move (Operand.tmp 0), type := 23, pos := "locks.go:60", after := #[{ on := 15, ground := Ground.guard }], guard := some (15, false) }) (v := undef) rfl (by kernel_rfl) (by kernel_rfl) (by kernel_rfl) (fun _ _ _ h => h) (Or.inr ⟨by rfl, rfl⟩) hHeld ?_
        try simp only [Act.put, List.setIfInBounds_toArray, List.set_cons_zero, List.set_cons_succ]
        refine wpAnyH_take (i := 17) (oi := { dst := some 29, op := Op.move (Operand.tmp 3), type := 3, pos := "locks.go:60", after := #[{ on := 15, ground := Ground.guard }], guard := some (15, false) }) (v := undef) rfl (by kernel_rfl) (by kernel_rfl) (by kernel_rfl) (fun _ _ _ h => h) (Or.inr ⟨by rfl, rfl⟩) hHeld ?_
        try simp only [Act.put, List.setIfInBounds_toArray, List.set_cons_zero, List.set_cons_succ]
        refine wpAnyH_take (i := 18) (oi := { dst := some 30, op := Op.binOp BinOp.sub 3 (Operand.tmp 29) (Operand.const (Value.int IntKind.i64 1)) 3, type := 3, pos := "locks.go:60", after := #[{ on := 17, ground := Ground.data }, { on := 15, ground := Ground.guard }], guard := some (15, false) }) (v := undef) rfl (by kernel_rfl) (by kernel_rfl) (by kernel_rfl) (fun _ _ _ h => h) (Or.inr ⟨by rfl, rfl⟩) hHeld ?_
        try simp only [Act.put, List.setIfInBounds_toArray, List.set_cons_zero, List.set_cons_succ]
        refine wpAnyH_take (i := 19) (oi := { dst := some 31, op := Op.indexAddr 23 (Operand.tmp 28) (Operand.tmp 30), type := 0, pos := "locks.go:60", after := #[{ on := 16, ground := Ground.data }, { on := 18, ground := Ground.data }, { on := 15, ground := Ground.guard }], guard := some (15, false) }) (v := undef) rfl (by kernel_rfl) (by kernel_rfl) (by kernel_rfl) (fun _ _ _ h => h) (Or.inr ⟨by rfl, rfl⟩) hHeld ?_
        try simp only [Act.put, List.setIfInBounds_toArray, List.set_cons_zero, List.set_cons_succ]
        refine wpAnyH_take (i := 20) (oi := { dst := some 32, op := Op.load 29 (Operand.tmp 31), type := 29, pos := "locks.go:60", after := #[{ on := 19, ground := Ground.data }, { on := 15, ground := Ground.guard }], guard := some (15, false) }) (v := undef) rfl (by kernel_rfl) (by kernel_rfl) (by kernel_rfl) (fun _ _ _ h => h) (Or.inr ⟨by rfl, rfl⟩) hHeld ?_
        try simp only [Act.put, List.setIfInBounds_toArray, List.set_cons_zero, List.set_cons_succ]
        refine wpAnyH_take (i := 21) (oi := { dst := some 33, op := Op.load 29 (Operand.tmp 4), type := 29, pos := "locks.go:60", after := #[{ on := 15, ground := Ground.guard }], guard := some (15, false) }) (v := undef) rfl (by kernel_rfl) (by kernel_rfl) (by kernel_rfl) (fun _ _ _ h => h) (Or.inr ⟨by rfl, rfl⟩) hHeld ?_
        try simp only [Act.put, List.setIfInBounds_toArray, List.set_cons_zero, List.set_cons_succ]
        refine wpAnyH_ready (rs := [22]) (by kernel_rfl) (by simp) ?_
        refine AllReadyH.cons (o := { dst := some 34, op := Op.call { callee := Callee.value (Operand.func 54), args := #[Operand.tmp 32, Operand.tmp 33], argTypes := #[29, 29] }, type := 4, pos := "locks.go:60", after := #[{ on := 20, ground := Ground.data }, { on := 21, ground := Ground.data }, { on := 15, ground := Ground.chain }, { on := 15, ground := Ground.guard }], guard := some (15, false) }) rfl (fun K hK => ?_) (AllReadyH.nil)
        rw [if_neg (by exact Bool.false_ne_true)]
        have HS63 : Hid (Hp w [.ob B21 29 (grCells x)] w61) := HS62.out
        refine hK.out _ _ ((fun j v hv => by rw [Nat.zero_add]; exact (HS63.out).at 0 rfl j hv)) (fun hHeld => ?_)
        clear hK K
        try simp only [Act.put, List.setIfInBounds_toArray, List.set_cons_zero, List.set_cons_succ]
        refine wpAnyH_take (i := 23) (oi := { dst := some 35, op := Op.pick (Operand.tmp 27) (Operand.const (Value.bool true)) (Operand.tmp 34), type := 4, pos := "locks.go:60", after := #[{ on := 15, ground := Ground.data }, { on := 22, ground := Ground.data }, { on := 6, ground := Ground.guard }], guard := some (6, true) }) (v := undef) rfl (by kernel_rfl) (by kernel_rfl) (by kernel_rfl) (fun _ _ _ h => h) (Or.inr ⟨by rfl, rfl⟩) hHeld ?_
        try simp only [Act.put, List.setIfInBounds_toArray, List.set_cons_zero, List.set_cons_succ]
        refine wpAnyH_take (i := 24) (oi := { dst := some 36, op := Op.pick (Operand.tmp 18) (Operand.tmp 35) (Operand.const (Value.bool false)), type := 4, pos := "locks.go:60", after := #[{ on := 6, ground := Ground.data }, { on := 23, ground := Ground.data }, { on := 3, ground := Ground.guard }], guard := some (3, false) }) (v := undef) rfl (by kernel_rfl) (by kernel_rfl) (by kernel_rfl) (fun _ _ _ h => h) (Or.inr ⟨by rfl, rfl⟩) hHeld ?_
        try simp only [Act.put, List.setIfInBounds_toArray, List.set_cons_zero, List.set_cons_succ]
        refine wpAnyH_take (i := 25) (oi := { dst := some 37, op := Op.pick (Operand.tmp 15) (Operand.const (Value.bool true)) (Operand.tmp 36), type := 4, pos := "locks.go:60", after := #[{ on := 3, ground := Ground.data }, { on := 24, ground := Ground.data }], guard := none }) (v := ?q123v) rfl (by kernel_rfl) (by kernel_rfl) (by kernel_rfl) (fun _ _ _ h => h) (Or.inl ⟨by rfl, ?q123h⟩) hHeld ?q123r
        case q123h => (intro wq hSw; clear hSw; go_simp; try with_reducible rfl)
        try simp only [Act.put, List.setIfInBounds_toArray, List.set_cons_zero, List.set_cons_succ]
        refine wpAnyH_done (by kernel_rfl) ?_ _
        clear hHeld
        go_wp2_with fail
        go_ret
        exact ⟨by rw [HX.out]; rfl, (HS63.out).old⟩
      case true =>
        have HOk1 := Lib.hid (HOx.out.1 rfl)
        clear hNx HOx
        by_cases hi1 : (0 : Int) < (i : Int)
        · obtain ⟨p, hip⟩ : ∃ p, i = p + 1 := ⟨i - 1, by omega⟩
          have HIp := Lib.hid hip
          have hpw : IntKind.i64.wrap ((i : Int) - 1) = (p : Int) := by rw [show (i : Int) - 1 = (p : Int) by omega]; exact IntWalk.i64_in _ (by have := HN.out; omega)
          have hpi : (p : Int) < (l.length : Int) := by omega
          have hp0 : (0 : Int) ≤ (p : Int) := by omega
          obtain ⟨y, hy⟩ : ∃ y, l[p]? = some y := ⟨_, List.getElem?_eq_getElem (by omega)⟩
          have HYp := Lib.hid hy
          have HGy := Lib.hid (HGe.out y (List.mem_of_getElem? hy))
          have HOr : Hid (∀ W, Calls Try.prog 53 #[.agg (grCells y).toArray, .agg (grCells x).toArray] W fun e w' => e = .returned (.int .i64 (ordI y x)) ∧ Below W.heap.size W w') := fun W => order_any y x W
          have HCf : Hid (∀ W, Calls Try.prog 54 #[.agg (grCells y).toArray, .agg (grCells x).toArray] W fun e w' => e = .returned (.bool (confB y x)) ∧ Below W.heap.size W w') := fun W => pconflict_any y x W HGy.out HGx.out
          have hNx := HNl.out i p x y HXi.out hip hy
          have hNy := HNc.out i p x y HXi.out hip hy
          have hneg := @ordI_neg y x
          have hcf := @confB_iff y x
          have dp : decide ((0 : Int) < (i : Int)) = true := decide_eq_true hi1
          have hi2 : 0 < i := by omega
          clear hip hy hi1
          generalize ordI y x = ov at *
          generalize confB y x = cf at *
          by_cases ho : ov < 0
          · have HG := Lib.hid (hneg.1 ho)
            have dov : decide (0 ≤ ov) = false := decide_eq_false (by omega)
            have HU : Hid (∀ z, (l.take i).getLast? = some z → GLt z x) := fun z hz => by
              rw [last_take HIp.out HYp.out] at hz
              rw [← Option.some.inj hz]; exact HG.out
            clear hNx hneg ho
            cases cf
            case true =>
              have HX := Lib.hid (hNy (hcf.1 rfl))
              clear hNy hcf
              refine wp_region_held_drew (S := fun w' => w'.rangeAt B21 0 (grCells x) ∧ w'.rangeAt g (off + p * 4) (grCells y)) (by kernel_rfl) (⟨(fun j v hv => by rw [Nat.zero_add]; exact ((HS21.out).drew).at 0 rfl j hv), (elem_rng (HRg.out _ ((HS21.out).drew).old) HYp.out)⟩) (fun hHeld => ?_)
              refine wpAnyH_take (i := 0) (oi := { dst := some 12, op := Op.load 29 (Operand.tmp 4), type := 29, pos := "locks.go:60", after := #[], guard := none }) rfl (by kernel_rfl) (by kernel_rfl) (by kernel_rfl) (fun _ _ _ h => h) (yieldsIf_load_mid (by rfl) 29 (.tmp 4) rfl B21 (0) rfl (grCells x) _ (fun _ h => h.1) HUG.out rfl (info_gr)) hHeld ?_
              try simp only [Act.put, List.setIfInBounds_toArray, List.set_cons_zero, List.set_cons_succ]
              refine wpAnyH_ready (rs := [1]) (by kernel_rfl) (by simp) ?_
              refine AllReadyH.cons (o := { dst := some 13, op := Op.call { callee := Callee.value (Operand.func 40), args := #[Operand.tmp 12], argTypes := #[29] }, type := 4, pos := "locks.go:60", after := #[{ on := 0, ground := Ground.data }], guard := none }) rfl (fun K hK => ?_) (AllReadyH.nil)
              go_simp
              go_wp2_with (go_at_call 40; refine (HGr.out _).mono ?_; rintro e w61 ⟨rfl, hb⟩)
              have HS61 : Hid (Hp w [.ob B21 29 (grCells x)] w61) := ((HS21.out).drew).calls hb
              refine hK.out _ _ (⟨(fun j v hv => by rw [Nat.zero_add]; exact (HS61.out).at 0 rfl j hv), (elem_rng (HRg.out _ (HS61.out).old) HYp.out)⟩) (fun hHeld => ?_)
              clear hK K hb
              try simp only [Act.put, List.setIfInBounds_toArray, List.set_cons_zero, List.set_cons_succ]
              refine wpAnyH_take (i := 2) (oi := { dst := some 14, op := Op.unOp UnOp.not 4 (Operand.tmp 13), type := 4, pos := "locks.go:60", after := #[{ on := 1, ground := Ground.data }], guard := none }) (v := .bool false) rfl (by kernel_rfl) (by kernel_rfl) (by kernel_rfl) (fun _ _ _ h => h) (Or.inl ⟨by rfl, ?q402h⟩) hHeld ?q402r
              case q402h => (intro wq hSw; clear hSw; go_simp; try with_reducible rfl)
              try simp only [Act.put, List.setIfInBounds_toArray, List.set_cons_zero, List.set_cons_succ]
              refine wpAnyH_take (i := 3) (oi := { dst := some 15, op := Op.move (Operand.tmp 14), type := 4, pos := "locks.go:60", after := #[{ on := 2, ground := Ground.data }, { on := 1, ground := Ground.chain }], guard := none }) (v := ?q403v) rfl (by kernel_rfl) (by kernel_rfl) (by kernel_rfl) (fun _ _ _ h => h) (Or.inl ⟨by rfl, ?q403h⟩) hHeld ?q403r
              case q403h => (intro wq hSw; clear hSw; go_simp; try with_reducible rfl)
              try simp only [Act.put, List.setIfInBounds_toArray, List.set_cons_zero, List.set_cons_succ]
              refine wpAnyH_take (i := 4) (oi := { dst := some 16, op := Op.move (Operand.tmp 3), type := 3, pos := "locks.go:60", after := #[{ on := 3, ground := Ground.guard }], guard := some (3, false) }) (v := ?q404v) rfl (by kernel_rfl) (by kernel_rfl) (by kernel_rfl) (fun _ _ _ h => h) (Or.inl ⟨by rfl, ?q404h⟩) hHeld ?q404r
              case q404h => (intro wq hSw; clear hSw; go_simp; try with_reducible rfl)
              try simp only [Act.put, List.setIfInBounds_toArray, List.set_cons_zero, List.set_cons_succ]
              refine wpAnyH_take (i := 5) (oi := { dst := some 17, op := Op.binOp BinOp.gtr 3 (Operand.tmp 16) (Operand.const (Value.int IntKind.i64 0)) 3, type := 4, pos := "locks.go:60", after := #[{ on := 4, ground := Ground.data }, { on := 3, ground := Ground.guard }], guard := some (3, false) }) (v := .bool true) rfl (by kernel_rfl) (by kernel_rfl) (by kernel_rfl) (fun _ _ _ h => h) (Or.inl ⟨by rfl, ?q405h⟩) hHeld ?q405r
              case q405h => (intro wq hSw; clear hSw; go_simp; try with_reducible rfl)
              try simp only [Act.put, List.setIfInBounds_toArray, List.set_cons_zero, List.set_cons_succ]
              refine wpAnyH_take (i := 6) (oi := { dst := some 18, op := Op.move (Operand.tmp 17), type := 4, pos := "locks.go:60", after := #[{ on := 5, ground := Ground.data }, { on := 3, ground := Ground.chain }, { on := 3, ground := Ground.guard }], guard := some (3, false) }) (v := ?q406v) rfl (by kernel_rfl) (by kernel_rfl) (by kernel_rfl) (fun _ _ _ h => h) (Or.inl ⟨by rfl, ?q406h⟩) hHeld ?q406r
              case q406h => (intro wq hSw; clear hSw; go_simp; try with_reducible rfl)
              try simp only [Act.put, List.setIfInBounds_toArray, List.set_cons_zero, List.set_cons_succ]
              refine wpAnyH_take (i := 7) (oi := { dst := some 19, op := Op.move (Operand.tmp 0), type := 23, pos := "locks.go:60", after := #[{ on := 6, ground := Ground.guard }], guard := some (6, true) }) (v := ?q407v) rfl (by kernel_rfl) (by kernel_rfl) (by kernel_rfl) (fun _ _ _ h => h) (Or.inl ⟨by rfl, ?q407h⟩) hHeld ?q407r
              case q407h => (intro wq hSw; clear hSw; go_simp; try with_reducible rfl)
              try simp only [Act.put, List.setIfInBounds_toArray, List.set_cons_zero, List.set_cons_succ]
              refine wpAnyH_take (i := 8) (oi := { dst := some 20, op := Op.move (Operand.tmp 3), type := 3, pos := "locks.go:60", after := #[{ on := 6, ground := Ground.guard }], guard := some (6, true) }) (v := ?q408v) rfl (by kernel_rfl) (by kernel_rfl) (by kernel_rfl) (fun _ _ _ h => h) (Or.inl ⟨by rfl, ?q408h⟩) hHeld ?q408r
              case q408h => (intro wq hSw; clear hSw; go_simp; try with_reducible rfl)
              try simp only [Act.put, List.setIfInBounds_toArray, List.set_cons_zero, List.set_cons_succ]
              refine wpAnyH_take (i := 9) (oi := { dst := some 21, op := Op.binOp BinOp.sub 3 (Operand.tmp 20) (Operand.const (Value.int IntKind.i64 1)) 3, type := 3, pos := "locks.go:60", after := #[{ on := 8, ground := Ground.data }, { on := 6, ground := Ground.guard }], guard := some (6, true) }) (v := ?q409v) rfl (by kernel_rfl) (by kernel_rfl) (by kernel_rfl) (fun _ _ _ h => h) (Or.inl ⟨by rfl, ?q409h⟩) hHeld ?q409r
              case q409h => (intro wq hSw; clear hSw; go_simp; try with_reducible rfl)
              try simp only [Act.put, List.setIfInBounds_toArray, List.set_cons_zero, List.set_cons_succ]
              refine wpAnyH_take (i := 10) (oi := { dst := some 22, op := Op.indexAddr 23 (Operand.tmp 19) (Operand.tmp 21), type := 0, pos := "locks.go:60", after := #[{ on := 7, ground := Ground.data }, { on := 9, ground := Ground.data }, { on := 6, ground := Ground.guard }], guard := some (6, true) }) (v := ?q410v) rfl (by kernel_rfl) (by kernel_rfl) (by kernel_rfl) (fun _ _ _ h => h) (Or.inl ⟨by rfl, ?q410h⟩) hHeld ?q410r
              case q410h => (intro wq hSw; clear hSw; go_simp; try with_reducible rfl)
              try simp only [Act.put, List.setIfInBounds_toArray, List.set_cons_zero, List.set_cons_succ]
              refine wpAnyH_take (i := 11) (oi := { dst := some 23, op := Op.load 29 (Operand.tmp 22), type := 29, pos := "locks.go:60", after := #[{ on := 10, ground := Ground.data }, { on := 6, ground := Ground.guard }], guard := some (6, true) }) rfl (by kernel_rfl) (by kernel_rfl) (by kernel_rfl) (fun _ _ _ h => h) (yieldsIf_load_mid (by rfl) 29 (.tmp 22) rfl g (off + p * 4) rfl (grCells y) _ (fun _ h => h.2) HUG.out rfl (info_gr)) hHeld ?_
              try simp only [Act.put, List.setIfInBounds_toArray, List.set_cons_zero, List.set_cons_succ]
              refine wpAnyH_take (i := 12) (oi := { dst := some 24, op := Op.load 29 (Operand.tmp 4), type := 29, pos := "locks.go:60", after := #[{ on := 6, ground := Ground.guard }], guard := some (6, true) }) rfl (by kernel_rfl) (by kernel_rfl) (by kernel_rfl) (fun _ _ _ h => h) (yieldsIf_load_mid (by rfl) 29 (.tmp 4) rfl B21 (0) rfl (grCells x) _ (fun _ h => h.1) HUG.out rfl (info_gr)) hHeld ?_
              try simp only [Act.put, List.setIfInBounds_toArray, List.set_cons_zero, List.set_cons_succ]
              refine wpAnyH_ready (rs := [13]) (by kernel_rfl) (by simp) ?_
              refine AllReadyH.cons (o := { dst := some 25, op := Op.call { callee := Callee.value (Operand.func 53), args := #[Operand.tmp 23, Operand.tmp 24], argTypes := #[29, 29] }, type := 3, pos := "locks.go:60", after := #[{ on := 11, ground := Ground.data }, { on := 12, ground := Ground.data }, { on := 6, ground := Ground.chain }, { on := 6, ground := Ground.guard }], guard := some (6, true) }) rfl (fun K hK => ?_) (AllReadyH.nil)
              go_simp
              go_wp2_with (go_at_call 53; refine (HOr.out _).mono ?_; rintro e w62 ⟨rfl, hb⟩)
              have HS62 : Hid (Hp w [.ob B21 29 (grCells x)] w62) := (HS61.out).calls hb
              refine hK.out _ _ (⟨(fun j v hv => by rw [Nat.zero_add]; exact (HS62.out).at 0 rfl j hv), (elem_rng (HRg.out _ (HS62.out).old) HYp.out)⟩) (fun hHeld => ?_)
              clear hK K hb
              try simp only [Act.put, List.setIfInBounds_toArray, List.set_cons_zero, List.set_cons_succ]
              refine wpAnyH_take (i := 14) (oi := { dst := some 26, op := Op.binOp BinOp.geq 3 (Operand.tmp 25) (Operand.const (Value.int IntKind.i64 0)) 3, type := 4, pos := "locks.go:60", after := #[{ on := 13, ground := Ground.data }, { on := 6, ground := Ground.guard }], guard := some (6, true) }) (v := .bool false) rfl (by kernel_rfl) (by kernel_rfl) (by kernel_rfl) (fun _ _ _ h => h) (Or.inl ⟨by rfl, ?q413h⟩) hHeld ?q413r
              case q413h => (intro wq hSw; clear hSw; go_simp; try with_reducible rfl)
              try simp only [Act.put, List.setIfInBounds_toArray, List.set_cons_zero, List.set_cons_succ]
              refine wpAnyH_take (i := 15) (oi := { dst := some 27, op := Op.move (Operand.tmp 26), type := 4, pos := "locks.go:60", after := #[{ on := 14, ground := Ground.data }, { on := 13, ground := Ground.chain }, { on := 6, ground := Ground.guard }], guard := some (6, true) }) (v := ?q414v) rfl (by kernel_rfl) (by kernel_rfl) (by kernel_rfl) (fun _ _ _ h => h) (Or.inl ⟨by rfl, ?q414h⟩) hHeld ?q414r
              case q414h => (intro wq hSw; clear hSw; go_simp; try with_reducible rfl)
              try simp only [Act.put, List.setIfInBounds_toArray, List.set_cons_zero, List.set_cons_succ]
              refine wpAnyH_take (i := 16) (oi := { dst := some 28, op := Op.move (Operand.tmp 0), type := 23, pos := "locks.go:60", after := #[{ on := 15, ground := Ground.guard }], guard := some (15, false) }) (v := ?q415v) rfl (by kernel_rfl) (by kernel_rfl) (by kernel_rfl) (fun _ _ _ h => h) (Or.inl ⟨by rfl, ?q415h⟩) hHeld ?q415r
              case q415h => (intro wq hSw; clear hSw; go_simp; try with_reducible rfl)
              try simp only [Act.put, List.setIfInBounds_toArray, List.set_cons_zero, List.set_cons_succ]
              refine wpAnyH_take (i := 17) (oi := { dst := some 29, op := Op.move (Operand.tmp 3), type := 3, pos := "locks.go:60", after := #[{ on := 15, ground := Ground.guard }], guard := some (15, false) }) (v := ?q416v) rfl (by kernel_rfl) (by kernel_rfl) (by kernel_rfl) (fun _ _ _ h => h) (Or.inl ⟨by rfl, ?q416h⟩) hHeld ?q416r
              case q416h => (intro wq hSw; clear hSw; go_simp; try with_reducible rfl)
              try simp only [Act.put, List.setIfInBounds_toArray, List.set_cons_zero, List.set_cons_succ]
              refine wpAnyH_take (i := 18) (oi := { dst := some 30, op := Op.binOp BinOp.sub 3 (Operand.tmp 29) (Operand.const (Value.int IntKind.i64 1)) 3, type := 3, pos := "locks.go:60", after := #[{ on := 17, ground := Ground.data }, { on := 15, ground := Ground.guard }], guard := some (15, false) }) (v := ?q417v) rfl (by kernel_rfl) (by kernel_rfl) (by kernel_rfl) (fun _ _ _ h => h) (Or.inl ⟨by rfl, ?q417h⟩) hHeld ?q417r
              case q417h => (intro wq hSw; clear hSw; go_simp; try with_reducible rfl)
              try simp only [Act.put, List.setIfInBounds_toArray, List.set_cons_zero, List.set_cons_succ]
              refine wpAnyH_take (i := 19) (oi := { dst := some 31, op := Op.indexAddr 23 (Operand.tmp 28) (Operand.tmp 30), type := 0, pos := "locks.go:60", after := #[{ on := 16, ground := Ground.data }, { on := 18, ground := Ground.data }, { on := 15, ground := Ground.guard }], guard := some (15, false) }) (v := ?q418v) rfl (by kernel_rfl) (by kernel_rfl) (by kernel_rfl) (fun _ _ _ h => h) (Or.inl ⟨by rfl, ?q418h⟩) hHeld ?q418r
              case q418h => (intro wq hSw; clear hSw; go_simp; try with_reducible rfl)
              try simp only [Act.put, List.setIfInBounds_toArray, List.set_cons_zero, List.set_cons_succ]
              refine wpAnyH_take (i := 20) (oi := { dst := some 32, op := Op.load 29 (Operand.tmp 31), type := 29, pos := "locks.go:60", after := #[{ on := 19, ground := Ground.data }, { on := 15, ground := Ground.guard }], guard := some (15, false) }) rfl (by kernel_rfl) (by kernel_rfl) (by kernel_rfl) (fun _ _ _ h => h) (yieldsIf_load_mid (by rfl) 29 (.tmp 31) rfl g (off + p * 4) rfl (grCells y) _ (fun _ h => h.2) HUG.out rfl (info_gr)) hHeld ?_
              try simp only [Act.put, List.setIfInBounds_toArray, List.set_cons_zero, List.set_cons_succ]
              refine wpAnyH_take (i := 21) (oi := { dst := some 33, op := Op.load 29 (Operand.tmp 4), type := 29, pos := "locks.go:60", after := #[{ on := 15, ground := Ground.guard }], guard := some (15, false) }) rfl (by kernel_rfl) (by kernel_rfl) (by kernel_rfl) (fun _ _ _ h => h) (yieldsIf_load_mid (by rfl) 29 (.tmp 4) rfl B21 (0) rfl (grCells x) _ (fun _ h => h.1) HUG.out rfl (info_gr)) hHeld ?_
              try simp only [Act.put, List.setIfInBounds_toArray, List.set_cons_zero, List.set_cons_succ]
              refine wpAnyH_ready (rs := [22]) (by kernel_rfl) (by simp) ?_
              refine AllReadyH.cons (o := { dst := some 34, op := Op.call { callee := Callee.value (Operand.func 54), args := #[Operand.tmp 32, Operand.tmp 33], argTypes := #[29, 29] }, type := 4, pos := "locks.go:60", after := #[{ on := 20, ground := Ground.data }, { on := 21, ground := Ground.data }, { on := 15, ground := Ground.chain }, { on := 15, ground := Ground.guard }], guard := some (15, false) }) rfl (fun K hK => ?_) (AllReadyH.nil)
              go_simp
              go_wp2_with (go_at_call 54; refine (HCf.out _).mono ?_; rintro e w63 ⟨rfl, hb⟩)
              have HS63 : Hid (Hp w [.ob B21 29 (grCells x)] w63) := (HS62.out).calls hb
              refine hK.out _ _ (⟨(fun j v hv => by rw [Nat.zero_add]; exact (HS63.out).at 0 rfl j hv), (elem_rng (HRg.out _ (HS63.out).old) HYp.out)⟩) (fun hHeld => ?_)
              clear hK K hb
              try simp only [Act.put, List.setIfInBounds_toArray, List.set_cons_zero, List.set_cons_succ]
              refine wpAnyH_take (i := 23) (oi := { dst := some 35, op := Op.pick (Operand.tmp 27) (Operand.const (Value.bool true)) (Operand.tmp 34), type := 4, pos := "locks.go:60", after := #[{ on := 15, ground := Ground.data }, { on := 22, ground := Ground.data }, { on := 6, ground := Ground.guard }], guard := some (6, true) }) (v := ?q421v) rfl (by kernel_rfl) (by kernel_rfl) (by kernel_rfl) (fun _ _ _ h => h) (Or.inl ⟨by rfl, ?q421h⟩) hHeld ?q421r
              case q421h => (intro wq hSw; clear hSw; go_simp; try with_reducible rfl)
              try simp only [Act.put, List.setIfInBounds_toArray, List.set_cons_zero, List.set_cons_succ]
              refine wpAnyH_take (i := 24) (oi := { dst := some 36, op := Op.pick (Operand.tmp 18) (Operand.tmp 35) (Operand.const (Value.bool false)), type := 4, pos := "locks.go:60", after := #[{ on := 6, ground := Ground.data }, { on := 23, ground := Ground.data }, { on := 3, ground := Ground.guard }], guard := some (3, false) }) (v := ?q422v) rfl (by kernel_rfl) (by kernel_rfl) (by kernel_rfl) (fun _ _ _ h => h) (Or.inl ⟨by rfl, ?q422h⟩) hHeld ?q422r
              case q422h => (intro wq hSw; clear hSw; go_simp; try with_reducible rfl)
              try simp only [Act.put, List.setIfInBounds_toArray, List.set_cons_zero, List.set_cons_succ]
              refine wpAnyH_take (i := 25) (oi := { dst := some 37, op := Op.pick (Operand.tmp 15) (Operand.const (Value.bool true)) (Operand.tmp 36), type := 4, pos := "locks.go:60", after := #[{ on := 3, ground := Ground.data }, { on := 24, ground := Ground.data }], guard := none }) (v := ?q423v) rfl (by kernel_rfl) (by kernel_rfl) (by kernel_rfl) (fun _ _ _ h => h) (Or.inl ⟨by rfl, ?q423h⟩) hHeld ?q423r
              case q423h => (intro wq hSw; clear hSw; go_simp; try with_reducible rfl)
              try simp only [Act.put, List.setIfInBounds_toArray, List.set_cons_zero, List.set_cons_succ]
              refine wpAnyH_done (by kernel_rfl) ?_ _
              clear hHeld
              go_wp2_with fail
              go_ret
              exact ⟨by rw [HX.out]; rfl, (HS63.out).old⟩
            case false =>
              have HA : Hid (∀ z ∈ l.take i, ¬ Conf z x) := adj_free HH.out (last_take HIp.out HYp.out) HG.out (fun h => by have := hcf.2 h; cases this)
              clear hNy hcf
              refine wp_region_held_drew (S := fun w' => w'.rangeAt B21 0 (grCells x) ∧ w'.rangeAt g (off + p * 4) (grCells y)) (by kernel_rfl) (⟨(fun j v hv => by rw [Nat.zero_add]; exact ((HS21.out).drew).at 0 rfl j hv), (elem_rng (HRg.out _ ((HS21.out).drew).old) HYp.out)⟩) (fun hHeld => ?_)
              refine wpAnyH_take (i := 0) (oi := { dst := some 12, op := Op.load 29 (Operand.tmp 4), type := 29, pos := "locks.go:60", after := #[], guard := none }) rfl (by kernel_rfl) (by kernel_rfl) (by kernel_rfl) (fun _ _ _ h => h) (yieldsIf_load_mid (by rfl) 29 (.tmp 4) rfl B21 (0) rfl (grCells x) _ (fun _ h => h.1) HUG.out rfl (info_gr)) hHeld ?_
              try simp only [Act.put, List.setIfInBounds_toArray, List.set_cons_zero, List.set_cons_succ]
              refine wpAnyH_ready (rs := [1]) (by kernel_rfl) (by simp) ?_
              refine AllReadyH.cons (o := { dst := some 13, op := Op.call { callee := Callee.value (Operand.func 40), args := #[Operand.tmp 12], argTypes := #[29] }, type := 4, pos := "locks.go:60", after := #[{ on := 0, ground := Ground.data }], guard := none }) rfl (fun K hK => ?_) (AllReadyH.nil)
              go_simp
              go_wp2_with (go_at_call 40; refine (HGr.out _).mono ?_; rintro e w61 ⟨rfl, hb⟩)
              have HS61 : Hid (Hp w [.ob B21 29 (grCells x)] w61) := ((HS21.out).drew).calls hb
              refine hK.out _ _ (⟨(fun j v hv => by rw [Nat.zero_add]; exact (HS61.out).at 0 rfl j hv), (elem_rng (HRg.out _ (HS61.out).old) HYp.out)⟩) (fun hHeld => ?_)
              clear hK K hb
              try simp only [Act.put, List.setIfInBounds_toArray, List.set_cons_zero, List.set_cons_succ]
              refine wpAnyH_take (i := 2) (oi := { dst := some 14, op := Op.unOp UnOp.not 4 (Operand.tmp 13), type := 4, pos := "locks.go:60", after := #[{ on := 1, ground := Ground.data }], guard := none }) (v := .bool false) rfl (by kernel_rfl) (by kernel_rfl) (by kernel_rfl) (fun _ _ _ h => h) (Or.inl ⟨by rfl, ?q502h⟩) hHeld ?q502r
              case q502h => (intro wq hSw; clear hSw; go_simp; try with_reducible rfl)
              try simp only [Act.put, List.setIfInBounds_toArray, List.set_cons_zero, List.set_cons_succ]
              refine wpAnyH_take (i := 3) (oi := { dst := some 15, op := Op.move (Operand.tmp 14), type := 4, pos := "locks.go:60", after := #[{ on := 2, ground := Ground.data }, { on := 1, ground := Ground.chain }], guard := none }) (v := ?q503v) rfl (by kernel_rfl) (by kernel_rfl) (by kernel_rfl) (fun _ _ _ h => h) (Or.inl ⟨by rfl, ?q503h⟩) hHeld ?q503r
              case q503h => (intro wq hSw; clear hSw; go_simp; try with_reducible rfl)
              try simp only [Act.put, List.setIfInBounds_toArray, List.set_cons_zero, List.set_cons_succ]
              refine wpAnyH_take (i := 4) (oi := { dst := some 16, op := Op.move (Operand.tmp 3), type := 3, pos := "locks.go:60", after := #[{ on := 3, ground := Ground.guard }], guard := some (3, false) }) (v := ?q504v) rfl (by kernel_rfl) (by kernel_rfl) (by kernel_rfl) (fun _ _ _ h => h) (Or.inl ⟨by rfl, ?q504h⟩) hHeld ?q504r
              case q504h => (intro wq hSw; clear hSw; go_simp; try with_reducible rfl)
              try simp only [Act.put, List.setIfInBounds_toArray, List.set_cons_zero, List.set_cons_succ]
              refine wpAnyH_take (i := 5) (oi := { dst := some 17, op := Op.binOp BinOp.gtr 3 (Operand.tmp 16) (Operand.const (Value.int IntKind.i64 0)) 3, type := 4, pos := "locks.go:60", after := #[{ on := 4, ground := Ground.data }, { on := 3, ground := Ground.guard }], guard := some (3, false) }) (v := .bool true) rfl (by kernel_rfl) (by kernel_rfl) (by kernel_rfl) (fun _ _ _ h => h) (Or.inl ⟨by rfl, ?q505h⟩) hHeld ?q505r
              case q505h => (intro wq hSw; clear hSw; go_simp; try with_reducible rfl)
              try simp only [Act.put, List.setIfInBounds_toArray, List.set_cons_zero, List.set_cons_succ]
              refine wpAnyH_take (i := 6) (oi := { dst := some 18, op := Op.move (Operand.tmp 17), type := 4, pos := "locks.go:60", after := #[{ on := 5, ground := Ground.data }, { on := 3, ground := Ground.chain }, { on := 3, ground := Ground.guard }], guard := some (3, false) }) (v := ?q506v) rfl (by kernel_rfl) (by kernel_rfl) (by kernel_rfl) (fun _ _ _ h => h) (Or.inl ⟨by rfl, ?q506h⟩) hHeld ?q506r
              case q506h => (intro wq hSw; clear hSw; go_simp; try with_reducible rfl)
              try simp only [Act.put, List.setIfInBounds_toArray, List.set_cons_zero, List.set_cons_succ]
              refine wpAnyH_take (i := 7) (oi := { dst := some 19, op := Op.move (Operand.tmp 0), type := 23, pos := "locks.go:60", after := #[{ on := 6, ground := Ground.guard }], guard := some (6, true) }) (v := ?q507v) rfl (by kernel_rfl) (by kernel_rfl) (by kernel_rfl) (fun _ _ _ h => h) (Or.inl ⟨by rfl, ?q507h⟩) hHeld ?q507r
              case q507h => (intro wq hSw; clear hSw; go_simp; try with_reducible rfl)
              try simp only [Act.put, List.setIfInBounds_toArray, List.set_cons_zero, List.set_cons_succ]
              refine wpAnyH_take (i := 8) (oi := { dst := some 20, op := Op.move (Operand.tmp 3), type := 3, pos := "locks.go:60", after := #[{ on := 6, ground := Ground.guard }], guard := some (6, true) }) (v := ?q508v) rfl (by kernel_rfl) (by kernel_rfl) (by kernel_rfl) (fun _ _ _ h => h) (Or.inl ⟨by rfl, ?q508h⟩) hHeld ?q508r
              case q508h => (intro wq hSw; clear hSw; go_simp; try with_reducible rfl)
              try simp only [Act.put, List.setIfInBounds_toArray, List.set_cons_zero, List.set_cons_succ]
              refine wpAnyH_take (i := 9) (oi := { dst := some 21, op := Op.binOp BinOp.sub 3 (Operand.tmp 20) (Operand.const (Value.int IntKind.i64 1)) 3, type := 3, pos := "locks.go:60", after := #[{ on := 8, ground := Ground.data }, { on := 6, ground := Ground.guard }], guard := some (6, true) }) (v := ?q509v) rfl (by kernel_rfl) (by kernel_rfl) (by kernel_rfl) (fun _ _ _ h => h) (Or.inl ⟨by rfl, ?q509h⟩) hHeld ?q509r
              case q509h => (intro wq hSw; clear hSw; go_simp; try with_reducible rfl)
              try simp only [Act.put, List.setIfInBounds_toArray, List.set_cons_zero, List.set_cons_succ]
              refine wpAnyH_take (i := 10) (oi := { dst := some 22, op := Op.indexAddr 23 (Operand.tmp 19) (Operand.tmp 21), type := 0, pos := "locks.go:60", after := #[{ on := 7, ground := Ground.data }, { on := 9, ground := Ground.data }, { on := 6, ground := Ground.guard }], guard := some (6, true) }) (v := ?q510v) rfl (by kernel_rfl) (by kernel_rfl) (by kernel_rfl) (fun _ _ _ h => h) (Or.inl ⟨by rfl, ?q510h⟩) hHeld ?q510r
              case q510h => (intro wq hSw; clear hSw; go_simp; try with_reducible rfl)
              try simp only [Act.put, List.setIfInBounds_toArray, List.set_cons_zero, List.set_cons_succ]
              refine wpAnyH_take (i := 11) (oi := { dst := some 23, op := Op.load 29 (Operand.tmp 22), type := 29, pos := "locks.go:60", after := #[{ on := 10, ground := Ground.data }, { on := 6, ground := Ground.guard }], guard := some (6, true) }) rfl (by kernel_rfl) (by kernel_rfl) (by kernel_rfl) (fun _ _ _ h => h) (yieldsIf_load_mid (by rfl) 29 (.tmp 22) rfl g (off + p * 4) rfl (grCells y) _ (fun _ h => h.2) HUG.out rfl (info_gr)) hHeld ?_
              try simp only [Act.put, List.setIfInBounds_toArray, List.set_cons_zero, List.set_cons_succ]
              refine wpAnyH_take (i := 12) (oi := { dst := some 24, op := Op.load 29 (Operand.tmp 4), type := 29, pos := "locks.go:60", after := #[{ on := 6, ground := Ground.guard }], guard := some (6, true) }) rfl (by kernel_rfl) (by kernel_rfl) (by kernel_rfl) (fun _ _ _ h => h) (yieldsIf_load_mid (by rfl) 29 (.tmp 4) rfl B21 (0) rfl (grCells x) _ (fun _ h => h.1) HUG.out rfl (info_gr)) hHeld ?_
              try simp only [Act.put, List.setIfInBounds_toArray, List.set_cons_zero, List.set_cons_succ]
              refine wpAnyH_ready (rs := [13]) (by kernel_rfl) (by simp) ?_
              refine AllReadyH.cons (o := { dst := some 25, op := Op.call { callee := Callee.value (Operand.func 53), args := #[Operand.tmp 23, Operand.tmp 24], argTypes := #[29, 29] }, type := 3, pos := "locks.go:60", after := #[{ on := 11, ground := Ground.data }, { on := 12, ground := Ground.data }, { on := 6, ground := Ground.chain }, { on := 6, ground := Ground.guard }], guard := some (6, true) }) rfl (fun K hK => ?_) (AllReadyH.nil)
              go_simp
              go_wp2_with (go_at_call 53; refine (HOr.out _).mono ?_; rintro e w62 ⟨rfl, hb⟩)
              have HS62 : Hid (Hp w [.ob B21 29 (grCells x)] w62) := (HS61.out).calls hb
              refine hK.out _ _ (⟨(fun j v hv => by rw [Nat.zero_add]; exact (HS62.out).at 0 rfl j hv), (elem_rng (HRg.out _ (HS62.out).old) HYp.out)⟩) (fun hHeld => ?_)
              clear hK K hb
              try simp only [Act.put, List.setIfInBounds_toArray, List.set_cons_zero, List.set_cons_succ]
              refine wpAnyH_take (i := 14) (oi := { dst := some 26, op := Op.binOp BinOp.geq 3 (Operand.tmp 25) (Operand.const (Value.int IntKind.i64 0)) 3, type := 4, pos := "locks.go:60", after := #[{ on := 13, ground := Ground.data }, { on := 6, ground := Ground.guard }], guard := some (6, true) }) (v := .bool false) rfl (by kernel_rfl) (by kernel_rfl) (by kernel_rfl) (fun _ _ _ h => h) (Or.inl ⟨by rfl, ?q513h⟩) hHeld ?q513r
              case q513h => (intro wq hSw; clear hSw; go_simp; try with_reducible rfl)
              try simp only [Act.put, List.setIfInBounds_toArray, List.set_cons_zero, List.set_cons_succ]
              refine wpAnyH_take (i := 15) (oi := { dst := some 27, op := Op.move (Operand.tmp 26), type := 4, pos := "locks.go:60", after := #[{ on := 14, ground := Ground.data }, { on := 13, ground := Ground.chain }, { on := 6, ground := Ground.guard }], guard := some (6, true) }) (v := ?q514v) rfl (by kernel_rfl) (by kernel_rfl) (by kernel_rfl) (fun _ _ _ h => h) (Or.inl ⟨by rfl, ?q514h⟩) hHeld ?q514r
              case q514h => (intro wq hSw; clear hSw; go_simp; try with_reducible rfl)
              try simp only [Act.put, List.setIfInBounds_toArray, List.set_cons_zero, List.set_cons_succ]
              refine wpAnyH_take (i := 16) (oi := { dst := some 28, op := Op.move (Operand.tmp 0), type := 23, pos := "locks.go:60", after := #[{ on := 15, ground := Ground.guard }], guard := some (15, false) }) (v := ?q515v) rfl (by kernel_rfl) (by kernel_rfl) (by kernel_rfl) (fun _ _ _ h => h) (Or.inl ⟨by rfl, ?q515h⟩) hHeld ?q515r
              case q515h => (intro wq hSw; clear hSw; go_simp; try with_reducible rfl)
              try simp only [Act.put, List.setIfInBounds_toArray, List.set_cons_zero, List.set_cons_succ]
              refine wpAnyH_take (i := 17) (oi := { dst := some 29, op := Op.move (Operand.tmp 3), type := 3, pos := "locks.go:60", after := #[{ on := 15, ground := Ground.guard }], guard := some (15, false) }) (v := ?q516v) rfl (by kernel_rfl) (by kernel_rfl) (by kernel_rfl) (fun _ _ _ h => h) (Or.inl ⟨by rfl, ?q516h⟩) hHeld ?q516r
              case q516h => (intro wq hSw; clear hSw; go_simp; try with_reducible rfl)
              try simp only [Act.put, List.setIfInBounds_toArray, List.set_cons_zero, List.set_cons_succ]
              refine wpAnyH_take (i := 18) (oi := { dst := some 30, op := Op.binOp BinOp.sub 3 (Operand.tmp 29) (Operand.const (Value.int IntKind.i64 1)) 3, type := 3, pos := "locks.go:60", after := #[{ on := 17, ground := Ground.data }, { on := 15, ground := Ground.guard }], guard := some (15, false) }) (v := ?q517v) rfl (by kernel_rfl) (by kernel_rfl) (by kernel_rfl) (fun _ _ _ h => h) (Or.inl ⟨by rfl, ?q517h⟩) hHeld ?q517r
              case q517h => (intro wq hSw; clear hSw; go_simp; try with_reducible rfl)
              try simp only [Act.put, List.setIfInBounds_toArray, List.set_cons_zero, List.set_cons_succ]
              refine wpAnyH_take (i := 19) (oi := { dst := some 31, op := Op.indexAddr 23 (Operand.tmp 28) (Operand.tmp 30), type := 0, pos := "locks.go:60", after := #[{ on := 16, ground := Ground.data }, { on := 18, ground := Ground.data }, { on := 15, ground := Ground.guard }], guard := some (15, false) }) (v := ?q518v) rfl (by kernel_rfl) (by kernel_rfl) (by kernel_rfl) (fun _ _ _ h => h) (Or.inl ⟨by rfl, ?q518h⟩) hHeld ?q518r
              case q518h => (intro wq hSw; clear hSw; go_simp; try with_reducible rfl)
              try simp only [Act.put, List.setIfInBounds_toArray, List.set_cons_zero, List.set_cons_succ]
              refine wpAnyH_take (i := 20) (oi := { dst := some 32, op := Op.load 29 (Operand.tmp 31), type := 29, pos := "locks.go:60", after := #[{ on := 19, ground := Ground.data }, { on := 15, ground := Ground.guard }], guard := some (15, false) }) rfl (by kernel_rfl) (by kernel_rfl) (by kernel_rfl) (fun _ _ _ h => h) (yieldsIf_load_mid (by rfl) 29 (.tmp 31) rfl g (off + p * 4) rfl (grCells y) _ (fun _ h => h.2) HUG.out rfl (info_gr)) hHeld ?_
              try simp only [Act.put, List.setIfInBounds_toArray, List.set_cons_zero, List.set_cons_succ]
              refine wpAnyH_take (i := 21) (oi := { dst := some 33, op := Op.load 29 (Operand.tmp 4), type := 29, pos := "locks.go:60", after := #[{ on := 15, ground := Ground.guard }], guard := some (15, false) }) rfl (by kernel_rfl) (by kernel_rfl) (by kernel_rfl) (fun _ _ _ h => h) (yieldsIf_load_mid (by rfl) 29 (.tmp 4) rfl B21 (0) rfl (grCells x) _ (fun _ h => h.1) HUG.out rfl (info_gr)) hHeld ?_
              try simp only [Act.put, List.setIfInBounds_toArray, List.set_cons_zero, List.set_cons_succ]
              refine wpAnyH_ready (rs := [22]) (by kernel_rfl) (by simp) ?_
              refine AllReadyH.cons (o := { dst := some 34, op := Op.call { callee := Callee.value (Operand.func 54), args := #[Operand.tmp 32, Operand.tmp 33], argTypes := #[29, 29] }, type := 4, pos := "locks.go:60", after := #[{ on := 20, ground := Ground.data }, { on := 21, ground := Ground.data }, { on := 15, ground := Ground.chain }, { on := 15, ground := Ground.guard }], guard := some (15, false) }) rfl (fun K hK => ?_) (AllReadyH.nil)
              go_simp
              go_wp2_with (go_at_call 54; refine (HCf.out _).mono ?_; rintro e w63 ⟨rfl, hb⟩)
              have HS63 : Hid (Hp w [.ob B21 29 (grCells x)] w63) := (HS62.out).calls hb
              refine hK.out _ _ (⟨(fun j v hv => by rw [Nat.zero_add]; exact (HS63.out).at 0 rfl j hv), (elem_rng (HRg.out _ (HS63.out).old) HYp.out)⟩) (fun hHeld => ?_)
              clear hK K hb
              try simp only [Act.put, List.setIfInBounds_toArray, List.set_cons_zero, List.set_cons_succ]
              refine wpAnyH_take (i := 23) (oi := { dst := some 35, op := Op.pick (Operand.tmp 27) (Operand.const (Value.bool true)) (Operand.tmp 34), type := 4, pos := "locks.go:60", after := #[{ on := 15, ground := Ground.data }, { on := 22, ground := Ground.data }, { on := 6, ground := Ground.guard }], guard := some (6, true) }) (v := ?q521v) rfl (by kernel_rfl) (by kernel_rfl) (by kernel_rfl) (fun _ _ _ h => h) (Or.inl ⟨by rfl, ?q521h⟩) hHeld ?q521r
              case q521h => (intro wq hSw; clear hSw; go_simp; try with_reducible rfl)
              try simp only [Act.put, List.setIfInBounds_toArray, List.set_cons_zero, List.set_cons_succ]
              refine wpAnyH_take (i := 24) (oi := { dst := some 36, op := Op.pick (Operand.tmp 18) (Operand.tmp 35) (Operand.const (Value.bool false)), type := 4, pos := "locks.go:60", after := #[{ on := 6, ground := Ground.data }, { on := 23, ground := Ground.data }, { on := 3, ground := Ground.guard }], guard := some (3, false) }) (v := ?q522v) rfl (by kernel_rfl) (by kernel_rfl) (by kernel_rfl) (fun _ _ _ h => h) (Or.inl ⟨by rfl, ?q522h⟩) hHeld ?q522r
              case q522h => (intro wq hSw; clear hSw; go_simp; try with_reducible rfl)
              try simp only [Act.put, List.setIfInBounds_toArray, List.set_cons_zero, List.set_cons_succ]
              refine wpAnyH_take (i := 25) (oi := { dst := some 37, op := Op.pick (Operand.tmp 15) (Operand.const (Value.bool true)) (Operand.tmp 36), type := 4, pos := "locks.go:60", after := #[{ on := 3, ground := Ground.data }, { on := 24, ground := Ground.data }], guard := none }) (v := ?q523v) rfl (by kernel_rfl) (by kernel_rfl) (by kernel_rfl) (fun _ _ _ h => h) (Or.inl ⟨by rfl, ?q523h⟩) hHeld ?q523r
              case q523h => (intro wq hSw; clear hSw; go_simp; try with_reducible rfl)
              try simp only [Act.put, List.setIfInBounds_toArray, List.set_cons_zero, List.set_cons_succ]
              refine wpAnyH_done (by kernel_rfl) ?_ _
              clear hHeld
              go_wp2_with fail
              go_roundw
              case rel => exact ⟨i + 1, HLt.out, by go_num, by rw [lk_take_snoc HXi.out]; exact held_snoc HH.out HOk1.out HU.out HA.out, HS63.out.forget (L := [])⟩
              case measure => simp [intOf]; try (have := HLt.out; omega)
          · have HX := Lib.hid (hNx (fun h => ho (hneg.2 h)))
            have dov : decide (0 ≤ ov) = true := decide_eq_true (by omega)
            clear hNx hNy hneg hcf ho
            refine wp_region_held_drew (S := fun w' => w'.rangeAt B21 0 (grCells x) ∧ w'.rangeAt g (off + p * 4) (grCells y)) (by kernel_rfl) (⟨(fun j v hv => by rw [Nat.zero_add]; exact ((HS21.out).drew).at 0 rfl j hv), (elem_rng (HRg.out _ ((HS21.out).drew).old) HYp.out)⟩) (fun hHeld => ?_)
            refine wpAnyH_take (i := 0) (oi := { dst := some 12, op := Op.load 29 (Operand.tmp 4), type := 29, pos := "locks.go:60", after := #[], guard := none }) rfl (by kernel_rfl) (by kernel_rfl) (by kernel_rfl) (fun _ _ _ h => h) (yieldsIf_load_mid (by rfl) 29 (.tmp 4) rfl B21 (0) rfl (grCells x) _ (fun _ h => h.1) HUG.out rfl (info_gr)) hHeld ?_
            try simp only [Act.put, List.setIfInBounds_toArray, List.set_cons_zero, List.set_cons_succ]
            refine wpAnyH_ready (rs := [1]) (by kernel_rfl) (by simp) ?_
            refine AllReadyH.cons (o := { dst := some 13, op := Op.call { callee := Callee.value (Operand.func 40), args := #[Operand.tmp 12], argTypes := #[29] }, type := 4, pos := "locks.go:60", after := #[{ on := 0, ground := Ground.data }], guard := none }) rfl (fun K hK => ?_) (AllReadyH.nil)
            go_simp
            go_wp2_with (go_at_call 40; refine (HGr.out _).mono ?_; rintro e w61 ⟨rfl, hb⟩)
            have HS61 : Hid (Hp w [.ob B21 29 (grCells x)] w61) := ((HS21.out).drew).calls hb
            refine hK.out _ _ (⟨(fun j v hv => by rw [Nat.zero_add]; exact (HS61.out).at 0 rfl j hv), (elem_rng (HRg.out _ (HS61.out).old) HYp.out)⟩) (fun hHeld => ?_)
            clear hK K hb
            try simp only [Act.put, List.setIfInBounds_toArray, List.set_cons_zero, List.set_cons_succ]
            refine wpAnyH_take (i := 2) (oi := { dst := some 14, op := Op.unOp UnOp.not 4 (Operand.tmp 13), type := 4, pos := "locks.go:60", after := #[{ on := 1, ground := Ground.data }], guard := none }) (v := .bool false) rfl (by kernel_rfl) (by kernel_rfl) (by kernel_rfl) (fun _ _ _ h => h) (Or.inl ⟨by rfl, ?q302h⟩) hHeld ?q302r
            case q302h => (intro wq hSw; clear hSw; go_simp; try with_reducible rfl)
            try simp only [Act.put, List.setIfInBounds_toArray, List.set_cons_zero, List.set_cons_succ]
            refine wpAnyH_take (i := 3) (oi := { dst := some 15, op := Op.move (Operand.tmp 14), type := 4, pos := "locks.go:60", after := #[{ on := 2, ground := Ground.data }, { on := 1, ground := Ground.chain }], guard := none }) (v := ?q303v) rfl (by kernel_rfl) (by kernel_rfl) (by kernel_rfl) (fun _ _ _ h => h) (Or.inl ⟨by rfl, ?q303h⟩) hHeld ?q303r
            case q303h => (intro wq hSw; clear hSw; go_simp; try with_reducible rfl)
            try simp only [Act.put, List.setIfInBounds_toArray, List.set_cons_zero, List.set_cons_succ]
            refine wpAnyH_take (i := 4) (oi := { dst := some 16, op := Op.move (Operand.tmp 3), type := 3, pos := "locks.go:60", after := #[{ on := 3, ground := Ground.guard }], guard := some (3, false) }) (v := ?q304v) rfl (by kernel_rfl) (by kernel_rfl) (by kernel_rfl) (fun _ _ _ h => h) (Or.inl ⟨by rfl, ?q304h⟩) hHeld ?q304r
            case q304h => (intro wq hSw; clear hSw; go_simp; try with_reducible rfl)
            try simp only [Act.put, List.setIfInBounds_toArray, List.set_cons_zero, List.set_cons_succ]
            refine wpAnyH_take (i := 5) (oi := { dst := some 17, op := Op.binOp BinOp.gtr 3 (Operand.tmp 16) (Operand.const (Value.int IntKind.i64 0)) 3, type := 4, pos := "locks.go:60", after := #[{ on := 4, ground := Ground.data }, { on := 3, ground := Ground.guard }], guard := some (3, false) }) (v := .bool true) rfl (by kernel_rfl) (by kernel_rfl) (by kernel_rfl) (fun _ _ _ h => h) (Or.inl ⟨by rfl, ?q305h⟩) hHeld ?q305r
            case q305h => (intro wq hSw; clear hSw; go_simp; try with_reducible rfl)
            try simp only [Act.put, List.setIfInBounds_toArray, List.set_cons_zero, List.set_cons_succ]
            refine wpAnyH_take (i := 6) (oi := { dst := some 18, op := Op.move (Operand.tmp 17), type := 4, pos := "locks.go:60", after := #[{ on := 5, ground := Ground.data }, { on := 3, ground := Ground.chain }, { on := 3, ground := Ground.guard }], guard := some (3, false) }) (v := ?q306v) rfl (by kernel_rfl) (by kernel_rfl) (by kernel_rfl) (fun _ _ _ h => h) (Or.inl ⟨by rfl, ?q306h⟩) hHeld ?q306r
            case q306h => (intro wq hSw; clear hSw; go_simp; try with_reducible rfl)
            try simp only [Act.put, List.setIfInBounds_toArray, List.set_cons_zero, List.set_cons_succ]
            refine wpAnyH_take (i := 7) (oi := { dst := some 19, op := Op.move (Operand.tmp 0), type := 23, pos := "locks.go:60", after := #[{ on := 6, ground := Ground.guard }], guard := some (6, true) }) (v := ?q307v) rfl (by kernel_rfl) (by kernel_rfl) (by kernel_rfl) (fun _ _ _ h => h) (Or.inl ⟨by rfl, ?q307h⟩) hHeld ?q307r
            case q307h => (intro wq hSw; clear hSw; go_simp; try with_reducible rfl)
            try simp only [Act.put, List.setIfInBounds_toArray, List.set_cons_zero, List.set_cons_succ]
            refine wpAnyH_take (i := 8) (oi := { dst := some 20, op := Op.move (Operand.tmp 3), type := 3, pos := "locks.go:60", after := #[{ on := 6, ground := Ground.guard }], guard := some (6, true) }) (v := ?q308v) rfl (by kernel_rfl) (by kernel_rfl) (by kernel_rfl) (fun _ _ _ h => h) (Or.inl ⟨by rfl, ?q308h⟩) hHeld ?q308r
            case q308h => (intro wq hSw; clear hSw; go_simp; try with_reducible rfl)
            try simp only [Act.put, List.setIfInBounds_toArray, List.set_cons_zero, List.set_cons_succ]
            refine wpAnyH_take (i := 9) (oi := { dst := some 21, op := Op.binOp BinOp.sub 3 (Operand.tmp 20) (Operand.const (Value.int IntKind.i64 1)) 3, type := 3, pos := "locks.go:60", after := #[{ on := 8, ground := Ground.data }, { on := 6, ground := Ground.guard }], guard := some (6, true) }) (v := ?q309v) rfl (by kernel_rfl) (by kernel_rfl) (by kernel_rfl) (fun _ _ _ h => h) (Or.inl ⟨by rfl, ?q309h⟩) hHeld ?q309r
            case q309h => (intro wq hSw; clear hSw; go_simp; try with_reducible rfl)
            try simp only [Act.put, List.setIfInBounds_toArray, List.set_cons_zero, List.set_cons_succ]
            refine wpAnyH_take (i := 10) (oi := { dst := some 22, op := Op.indexAddr 23 (Operand.tmp 19) (Operand.tmp 21), type := 0, pos := "locks.go:60", after := #[{ on := 7, ground := Ground.data }, { on := 9, ground := Ground.data }, { on := 6, ground := Ground.guard }], guard := some (6, true) }) (v := ?q310v) rfl (by kernel_rfl) (by kernel_rfl) (by kernel_rfl) (fun _ _ _ h => h) (Or.inl ⟨by rfl, ?q310h⟩) hHeld ?q310r
            case q310h => (intro wq hSw; clear hSw; go_simp; try with_reducible rfl)
            try simp only [Act.put, List.setIfInBounds_toArray, List.set_cons_zero, List.set_cons_succ]
            refine wpAnyH_take (i := 11) (oi := { dst := some 23, op := Op.load 29 (Operand.tmp 22), type := 29, pos := "locks.go:60", after := #[{ on := 10, ground := Ground.data }, { on := 6, ground := Ground.guard }], guard := some (6, true) }) rfl (by kernel_rfl) (by kernel_rfl) (by kernel_rfl) (fun _ _ _ h => h) (yieldsIf_load_mid (by rfl) 29 (.tmp 22) rfl g (off + p * 4) rfl (grCells y) _ (fun _ h => h.2) HUG.out rfl (info_gr)) hHeld ?_
            try simp only [Act.put, List.setIfInBounds_toArray, List.set_cons_zero, List.set_cons_succ]
            refine wpAnyH_take (i := 12) (oi := { dst := some 24, op := Op.load 29 (Operand.tmp 4), type := 29, pos := "locks.go:60", after := #[{ on := 6, ground := Ground.guard }], guard := some (6, true) }) rfl (by kernel_rfl) (by kernel_rfl) (by kernel_rfl) (fun _ _ _ h => h) (yieldsIf_load_mid (by rfl) 29 (.tmp 4) rfl B21 (0) rfl (grCells x) _ (fun _ h => h.1) HUG.out rfl (info_gr)) hHeld ?_
            try simp only [Act.put, List.setIfInBounds_toArray, List.set_cons_zero, List.set_cons_succ]
            refine wpAnyH_ready (rs := [13]) (by kernel_rfl) (by simp) ?_
            refine AllReadyH.cons (o := { dst := some 25, op := Op.call { callee := Callee.value (Operand.func 53), args := #[Operand.tmp 23, Operand.tmp 24], argTypes := #[29, 29] }, type := 3, pos := "locks.go:60", after := #[{ on := 11, ground := Ground.data }, { on := 12, ground := Ground.data }, { on := 6, ground := Ground.chain }, { on := 6, ground := Ground.guard }], guard := some (6, true) }) rfl (fun K hK => ?_) (AllReadyH.nil)
            go_simp
            go_wp2_with (go_at_call 53; refine (HOr.out _).mono ?_; rintro e w62 ⟨rfl, hb⟩)
            have HS62 : Hid (Hp w [.ob B21 29 (grCells x)] w62) := (HS61.out).calls hb
            refine hK.out _ _ (⟨(fun j v hv => by rw [Nat.zero_add]; exact (HS62.out).at 0 rfl j hv), (elem_rng (HRg.out _ (HS62.out).old) HYp.out)⟩) (fun hHeld => ?_)
            clear hK K hb
            try simp only [Act.put, List.setIfInBounds_toArray, List.set_cons_zero, List.set_cons_succ]
            refine wpAnyH_take (i := 14) (oi := { dst := some 26, op := Op.binOp BinOp.geq 3 (Operand.tmp 25) (Operand.const (Value.int IntKind.i64 0)) 3, type := 4, pos := "locks.go:60", after := #[{ on := 13, ground := Ground.data }, { on := 6, ground := Ground.guard }], guard := some (6, true) }) (v := .bool true) rfl (by kernel_rfl) (by kernel_rfl) (by kernel_rfl) (fun _ _ _ h => h) (Or.inl ⟨by rfl, ?q313h⟩) hHeld ?q313r
            case q313h => (intro wq hSw; clear hSw; go_simp; try with_reducible rfl)
            try simp only [Act.put, List.setIfInBounds_toArray, List.set_cons_zero, List.set_cons_succ]
            refine wpAnyH_take (i := 15) (oi := { dst := some 27, op := Op.move (Operand.tmp 26), type := 4, pos := "locks.go:60", after := #[{ on := 14, ground := Ground.data }, { on := 13, ground := Ground.chain }, { on := 6, ground := Ground.guard }], guard := some (6, true) }) (v := ?q314v) rfl (by kernel_rfl) (by kernel_rfl) (by kernel_rfl) (fun _ _ _ h => h) (Or.inl ⟨by rfl, ?q314h⟩) hHeld ?q314r
            case q314h => (intro wq hSw; clear hSw; go_simp; try with_reducible rfl)
            try simp only [Act.put, List.setIfInBounds_toArray, List.set_cons_zero, List.set_cons_succ]
            refine wpAnyH_take (i := 16) (oi := { dst := some 28, op := Op.move (Operand.tmp 0), type := 23, pos := "locks.go:60", after := #[{ on := 15, ground := Ground.guard }], guard := some (15, false) }) (v := undef) rfl (by kernel_rfl) (by kernel_rfl) (by kernel_rfl) (fun _ _ _ h => h) (Or.inr ⟨by rfl, rfl⟩) hHeld ?_
            try simp only [Act.put, List.setIfInBounds_toArray, List.set_cons_zero, List.set_cons_succ]
            refine wpAnyH_take (i := 17) (oi := { dst := some 29, op := Op.move (Operand.tmp 3), type := 3, pos := "locks.go:60", after := #[{ on := 15, ground := Ground.guard }], guard := some (15, false) }) (v := undef) rfl (by kernel_rfl) (by kernel_rfl) (by kernel_rfl) (fun _ _ _ h => h) (Or.inr ⟨by rfl, rfl⟩) hHeld ?_
            try simp only [Act.put, List.setIfInBounds_toArray, List.set_cons_zero, List.set_cons_succ]
            refine wpAnyH_take (i := 18) (oi := { dst := some 30, op := Op.binOp BinOp.sub 3 (Operand.tmp 29) (Operand.const (Value.int IntKind.i64 1)) 3, type := 3, pos := "locks.go:60", after := #[{ on := 17, ground := Ground.data }, { on := 15, ground := Ground.guard }], guard := some (15, false) }) (v := undef) rfl (by kernel_rfl) (by kernel_rfl) (by kernel_rfl) (fun _ _ _ h => h) (Or.inr ⟨by rfl, rfl⟩) hHeld ?_
            try simp only [Act.put, List.setIfInBounds_toArray, List.set_cons_zero, List.set_cons_succ]
            refine wpAnyH_take (i := 19) (oi := { dst := some 31, op := Op.indexAddr 23 (Operand.tmp 28) (Operand.tmp 30), type := 0, pos := "locks.go:60", after := #[{ on := 16, ground := Ground.data }, { on := 18, ground := Ground.data }, { on := 15, ground := Ground.guard }], guard := some (15, false) }) (v := undef) rfl (by kernel_rfl) (by kernel_rfl) (by kernel_rfl) (fun _ _ _ h => h) (Or.inr ⟨by rfl, rfl⟩) hHeld ?_
            try simp only [Act.put, List.setIfInBounds_toArray, List.set_cons_zero, List.set_cons_succ]
            refine wpAnyH_take (i := 20) (oi := { dst := some 32, op := Op.load 29 (Operand.tmp 31), type := 29, pos := "locks.go:60", after := #[{ on := 19, ground := Ground.data }, { on := 15, ground := Ground.guard }], guard := some (15, false) }) (v := undef) rfl (by kernel_rfl) (by kernel_rfl) (by kernel_rfl) (fun _ _ _ h => h) (Or.inr ⟨by rfl, rfl⟩) hHeld ?_
            try simp only [Act.put, List.setIfInBounds_toArray, List.set_cons_zero, List.set_cons_succ]
            refine wpAnyH_take (i := 21) (oi := { dst := some 33, op := Op.load 29 (Operand.tmp 4), type := 29, pos := "locks.go:60", after := #[{ on := 15, ground := Ground.guard }], guard := some (15, false) }) (v := undef) rfl (by kernel_rfl) (by kernel_rfl) (by kernel_rfl) (fun _ _ _ h => h) (Or.inr ⟨by rfl, rfl⟩) hHeld ?_
            try simp only [Act.put, List.setIfInBounds_toArray, List.set_cons_zero, List.set_cons_succ]
            refine wpAnyH_ready (rs := [22]) (by kernel_rfl) (by simp) ?_
            refine AllReadyH.cons (o := { dst := some 34, op := Op.call { callee := Callee.value (Operand.func 54), args := #[Operand.tmp 32, Operand.tmp 33], argTypes := #[29, 29] }, type := 4, pos := "locks.go:60", after := #[{ on := 20, ground := Ground.data }, { on := 21, ground := Ground.data }, { on := 15, ground := Ground.chain }, { on := 15, ground := Ground.guard }], guard := some (15, false) }) rfl (fun K hK => ?_) (AllReadyH.nil)
            rw [if_neg (by exact Bool.false_ne_true)]
            have HS63 : Hid (Hp w [.ob B21 29 (grCells x)] w62) := HS62.out
            refine hK.out _ _ (⟨(fun j v hv => by rw [Nat.zero_add]; exact (HS63.out).at 0 rfl j hv), (elem_rng (HRg.out _ (HS63.out).old) HYp.out)⟩) (fun hHeld => ?_)
            clear hK K
            try simp only [Act.put, List.setIfInBounds_toArray, List.set_cons_zero, List.set_cons_succ]
            refine wpAnyH_take (i := 23) (oi := { dst := some 35, op := Op.pick (Operand.tmp 27) (Operand.const (Value.bool true)) (Operand.tmp 34), type := 4, pos := "locks.go:60", after := #[{ on := 15, ground := Ground.data }, { on := 22, ground := Ground.data }, { on := 6, ground := Ground.guard }], guard := some (6, true) }) (v := ?q321v) rfl (by kernel_rfl) (by kernel_rfl) (by kernel_rfl) (fun _ _ _ h => h) (Or.inl ⟨by rfl, ?q321h⟩) hHeld ?q321r
            case q321h => (intro wq hSw; clear hSw; go_simp; try with_reducible rfl)
            try simp only [Act.put, List.setIfInBounds_toArray, List.set_cons_zero, List.set_cons_succ]
            refine wpAnyH_take (i := 24) (oi := { dst := some 36, op := Op.pick (Operand.tmp 18) (Operand.tmp 35) (Operand.const (Value.bool false)), type := 4, pos := "locks.go:60", after := #[{ on := 6, ground := Ground.data }, { on := 23, ground := Ground.data }, { on := 3, ground := Ground.guard }], guard := some (3, false) }) (v := ?q322v) rfl (by kernel_rfl) (by kernel_rfl) (by kernel_rfl) (fun _ _ _ h => h) (Or.inl ⟨by rfl, ?q322h⟩) hHeld ?q322r
            case q322h => (intro wq hSw; clear hSw; go_simp; try with_reducible rfl)
            try simp only [Act.put, List.setIfInBounds_toArray, List.set_cons_zero, List.set_cons_succ]
            refine wpAnyH_take (i := 25) (oi := { dst := some 37, op := Op.pick (Operand.tmp 15) (Operand.const (Value.bool true)) (Operand.tmp 36), type := 4, pos := "locks.go:60", after := #[{ on := 3, ground := Ground.data }, { on := 24, ground := Ground.data }], guard := none }) (v := ?q323v) rfl (by kernel_rfl) (by kernel_rfl) (by kernel_rfl) (fun _ _ _ h => h) (Or.inl ⟨by rfl, ?q323h⟩) hHeld ?q323r
            case q323h => (intro wq hSw; clear hSw; go_simp; try with_reducible rfl)
            try simp only [Act.put, List.setIfInBounds_toArray, List.set_cons_zero, List.set_cons_succ]
            refine wpAnyH_done (by kernel_rfl) ?_ _
            clear hHeld
            go_wp2_with fail
            go_ret
            exact ⟨by rw [HX.out]; rfl, (HS63.out).old⟩
        · obtain rfl : i = 0 := by omega
          have HU : Hid (∀ z, (l.take 0).getLast? = some z → GLt z x) := fun z hz => by simp at hz
          have HA : Hid (∀ z ∈ l.take 0, ¬ Conf z x) := fun z hz => by simp at hz
          have dp : decide ((0 : Int) < ((0 : Nat) : Int)) = false := rfl
          clear hi1
          refine wp_region_held_drew (S := fun w' => w'.rangeAt B21 0 (grCells x)) (by kernel_rfl) ((fun j v hv => by rw [Nat.zero_add]; exact ((HS21.out).drew).at 0 rfl j hv)) (fun hHeld => ?_)
          refine wpAnyH_take (i := 0) (oi := { dst := some 12, op := Op.load 29 (Operand.tmp 4), type := 29, pos := "locks.go:60", after := #[], guard := none }) rfl (by kernel_rfl) (by kernel_rfl) (by kernel_rfl) (fun _ _ _ h => h) (yieldsIf_load_mid (by rfl) 29 (.tmp 4) rfl B21 (0) rfl (grCells x) _ (fun _ h => h) HUG.out rfl (info_gr)) hHeld ?_
          try simp only [Act.put, List.setIfInBounds_toArray, List.set_cons_zero, List.set_cons_succ]
          refine wpAnyH_ready (rs := [1]) (by kernel_rfl) (by simp) ?_
          refine AllReadyH.cons (o := { dst := some 13, op := Op.call { callee := Callee.value (Operand.func 40), args := #[Operand.tmp 12], argTypes := #[29] }, type := 4, pos := "locks.go:60", after := #[{ on := 0, ground := Ground.data }], guard := none }) rfl (fun K hK => ?_) (AllReadyH.nil)
          go_simp
          go_wp2_with (go_at_call 40; refine (HGr.out _).mono ?_; rintro e w61 ⟨rfl, hb⟩)
          have HS61 : Hid (Hp w [.ob B21 29 (grCells x)] w61) := ((HS21.out).drew).calls hb
          refine hK.out _ _ ((fun j v hv => by rw [Nat.zero_add]; exact (HS61.out).at 0 rfl j hv)) (fun hHeld => ?_)
          clear hK K hb
          try simp only [Act.put, List.setIfInBounds_toArray, List.set_cons_zero, List.set_cons_succ]
          refine wpAnyH_take (i := 2) (oi := { dst := some 14, op := Op.unOp UnOp.not 4 (Operand.tmp 13), type := 4, pos := "locks.go:60", after := #[{ on := 1, ground := Ground.data }], guard := none }) (v := .bool false) rfl (by kernel_rfl) (by kernel_rfl) (by kernel_rfl) (fun _ _ _ h => h) (Or.inl ⟨by rfl, ?q202h⟩) hHeld ?q202r
          case q202h => (intro wq hSw; clear hSw; go_simp; try with_reducible rfl)
          try simp only [Act.put, List.setIfInBounds_toArray, List.set_cons_zero, List.set_cons_succ]
          refine wpAnyH_take (i := 3) (oi := { dst := some 15, op := Op.move (Operand.tmp 14), type := 4, pos := "locks.go:60", after := #[{ on := 2, ground := Ground.data }, { on := 1, ground := Ground.chain }], guard := none }) (v := ?q203v) rfl (by kernel_rfl) (by kernel_rfl) (by kernel_rfl) (fun _ _ _ h => h) (Or.inl ⟨by rfl, ?q203h⟩) hHeld ?q203r
          case q203h => (intro wq hSw; clear hSw; go_simp; try with_reducible rfl)
          try simp only [Act.put, List.setIfInBounds_toArray, List.set_cons_zero, List.set_cons_succ]
          refine wpAnyH_take (i := 4) (oi := { dst := some 16, op := Op.move (Operand.tmp 3), type := 3, pos := "locks.go:60", after := #[{ on := 3, ground := Ground.guard }], guard := some (3, false) }) (v := ?q204v) rfl (by kernel_rfl) (by kernel_rfl) (by kernel_rfl) (fun _ _ _ h => h) (Or.inl ⟨by rfl, ?q204h⟩) hHeld ?q204r
          case q204h => (intro wq hSw; clear hSw; go_simp; try with_reducible rfl)
          try simp only [Act.put, List.setIfInBounds_toArray, List.set_cons_zero, List.set_cons_succ]
          refine wpAnyH_take (i := 5) (oi := { dst := some 17, op := Op.binOp BinOp.gtr 3 (Operand.tmp 16) (Operand.const (Value.int IntKind.i64 0)) 3, type := 4, pos := "locks.go:60", after := #[{ on := 4, ground := Ground.data }, { on := 3, ground := Ground.guard }], guard := some (3, false) }) (v := .bool false) rfl (by kernel_rfl) (by kernel_rfl) (by kernel_rfl) (fun _ _ _ h => h) (Or.inl ⟨by rfl, ?q205h⟩) hHeld ?q205r
          case q205h => (intro wq hSw; clear hSw; go_simp; try with_reducible rfl)
          try simp only [Act.put, List.setIfInBounds_toArray, List.set_cons_zero, List.set_cons_succ]
          refine wpAnyH_take (i := 6) (oi := { dst := some 18, op := Op.move (Operand.tmp 17), type := 4, pos := "locks.go:60", after := #[{ on := 5, ground := Ground.data }, { on := 3, ground := Ground.chain }, { on := 3, ground := Ground.guard }], guard := some (3, false) }) (v := ?q206v) rfl (by kernel_rfl) (by kernel_rfl) (by kernel_rfl) (fun _ _ _ h => h) (Or.inl ⟨by rfl, ?q206h⟩) hHeld ?q206r
          case q206h => (intro wq hSw; clear hSw; go_simp; try with_reducible rfl)
          try simp only [Act.put, List.setIfInBounds_toArray, List.set_cons_zero, List.set_cons_succ]
          refine wpAnyH_take (i := 7) (oi := { dst := some 19, op := Op.move (Operand.tmp 0), type := 23, pos := "locks.go:60", after := #[{ on := 6, ground := Ground.guard }], guard := some (6, true) }) (v := undef) rfl (by kernel_rfl) (by kernel_rfl) (by kernel_rfl) (fun _ _ _ h => h) (Or.inr ⟨by rfl, rfl⟩) hHeld ?_
          try simp only [Act.put, List.setIfInBounds_toArray, List.set_cons_zero, List.set_cons_succ]
          refine wpAnyH_take (i := 8) (oi := { dst := some 20, op := Op.move (Operand.tmp 3), type := 3, pos := "locks.go:60", after := #[{ on := 6, ground := Ground.guard }], guard := some (6, true) }) (v := undef) rfl (by kernel_rfl) (by kernel_rfl) (by kernel_rfl) (fun _ _ _ h => h) (Or.inr ⟨by rfl, rfl⟩) hHeld ?_
          try simp only [Act.put, List.setIfInBounds_toArray, List.set_cons_zero, List.set_cons_succ]
          refine wpAnyH_take (i := 9) (oi := { dst := some 21, op := Op.binOp BinOp.sub 3 (Operand.tmp 20) (Operand.const (Value.int IntKind.i64 1)) 3, type := 3, pos := "locks.go:60", after := #[{ on := 8, ground := Ground.data }, { on := 6, ground := Ground.guard }], guard := some (6, true) }) (v := undef) rfl (by kernel_rfl) (by kernel_rfl) (by kernel_rfl) (fun _ _ _ h => h) (Or.inr ⟨by rfl, rfl⟩) hHeld ?_
          try simp only [Act.put, List.setIfInBounds_toArray, List.set_cons_zero, List.set_cons_succ]
          refine wpAnyH_take (i := 10) (oi := { dst := some 22, op := Op.indexAddr 23 (Operand.tmp 19) (Operand.tmp 21), type := 0, pos := "locks.go:60", after := #[{ on := 7, ground := Ground.data }, { on := 9, ground := Ground.data }, { on := 6, ground := Ground.guard }], guard := some (6, true) }) (v := undef) rfl (by kernel_rfl) (by kernel_rfl) (by kernel_rfl) (fun _ _ _ h => h) (Or.inr ⟨by rfl, rfl⟩) hHeld ?_
          try simp only [Act.put, List.setIfInBounds_toArray, List.set_cons_zero, List.set_cons_succ]
          refine wpAnyH_take (i := 11) (oi := { dst := some 23, op := Op.load 29 (Operand.tmp 22), type := 29, pos := "locks.go:60", after := #[{ on := 10, ground := Ground.data }, { on := 6, ground := Ground.guard }], guard := some (6, true) }) (v := undef) rfl (by kernel_rfl) (by kernel_rfl) (by kernel_rfl) (fun _ _ _ h => h) (Or.inr ⟨by rfl, rfl⟩) hHeld ?_
          try simp only [Act.put, List.setIfInBounds_toArray, List.set_cons_zero, List.set_cons_succ]
          refine wpAnyH_take (i := 12) (oi := { dst := some 24, op := Op.load 29 (Operand.tmp 4), type := 29, pos := "locks.go:60", after := #[{ on := 6, ground := Ground.guard }], guard := some (6, true) }) (v := undef) rfl (by kernel_rfl) (by kernel_rfl) (by kernel_rfl) (fun _ _ _ h => h) (Or.inr ⟨by rfl, rfl⟩) hHeld ?_
          try simp only [Act.put, List.setIfInBounds_toArray, List.set_cons_zero, List.set_cons_succ]
          refine wpAnyH_ready (rs := [13]) (by kernel_rfl) (by simp) ?_
          refine AllReadyH.cons (o := { dst := some 25, op := Op.call { callee := Callee.value (Operand.func 53), args := #[Operand.tmp 23, Operand.tmp 24], argTypes := #[29, 29] }, type := 3, pos := "locks.go:60", after := #[{ on := 11, ground := Ground.data }, { on := 12, ground := Ground.data }, { on := 6, ground := Ground.chain }, { on := 6, ground := Ground.guard }], guard := some (6, true) }) rfl (fun K hK => ?_) (AllReadyH.nil)
          rw [if_neg (by exact Bool.false_ne_true)]
          have HS62 : Hid (Hp w [.ob B21 29 (grCells x)] w61) := HS61.out
          refine hK.out _ _ ((fun j v hv => by rw [Nat.zero_add]; exact (HS62.out).at 0 rfl j hv)) (fun hHeld => ?_)
          clear hK K
          try simp only [Act.put, List.setIfInBounds_toArray, List.set_cons_zero, List.set_cons_succ]
          refine wpAnyH_take (i := 14) (oi := { dst := some 26, op := Op.binOp BinOp.geq 3 (Operand.tmp 25) (Operand.const (Value.int IntKind.i64 0)) 3, type := 4, pos := "locks.go:60", after := #[{ on := 13, ground := Ground.data }, { on := 6, ground := Ground.guard }], guard := some (6, true) }) (v := undef) rfl (by kernel_rfl) (by kernel_rfl) (by kernel_rfl) (fun _ _ _ h => h) (Or.inr ⟨by rfl, rfl⟩) hHeld ?_
          try simp only [Act.put, List.setIfInBounds_toArray, List.set_cons_zero, List.set_cons_succ]
          refine wpAnyH_take (i := 15) (oi := { dst := some 27, op := Op.move (Operand.tmp 26), type := 4, pos := "locks.go:60", after := #[{ on := 14, ground := Ground.data }, { on := 13, ground := Ground.chain }, { on := 6, ground := Ground.guard }], guard := some (6, true) }) (v := undef) rfl (by kernel_rfl) (by kernel_rfl) (by kernel_rfl) (fun _ _ _ h => h) (Or.inr ⟨by rfl, rfl⟩) hHeld ?_
          try simp only [Act.put, List.setIfInBounds_toArray, List.set_cons_zero, List.set_cons_succ]
          refine wpAnyH_take (i := 16) (oi := { dst := some 28, op := Op.move (Operand.tmp 0), type := 23, pos := "locks.go:60", after := #[{ on := 15, ground := Ground.guard }], guard := some (15, false) }) (v := undef) rfl (by kernel_rfl) (by kernel_rfl) (by kernel_rfl) (fun _ _ _ h => h) (Or.inr ⟨by rfl, rfl⟩) hHeld ?_
          try simp only [Act.put, List.setIfInBounds_toArray, List.set_cons_zero, List.set_cons_succ]
          refine wpAnyH_take (i := 17) (oi := { dst := some 29, op := Op.move (Operand.tmp 3), type := 3, pos := "locks.go:60", after := #[{ on := 15, ground := Ground.guard }], guard := some (15, false) }) (v := undef) rfl (by kernel_rfl) (by kernel_rfl) (by kernel_rfl) (fun _ _ _ h => h) (Or.inr ⟨by rfl, rfl⟩) hHeld ?_
          try simp only [Act.put, List.setIfInBounds_toArray, List.set_cons_zero, List.set_cons_succ]
          refine wpAnyH_take (i := 18) (oi := { dst := some 30, op := Op.binOp BinOp.sub 3 (Operand.tmp 29) (Operand.const (Value.int IntKind.i64 1)) 3, type := 3, pos := "locks.go:60", after := #[{ on := 17, ground := Ground.data }, { on := 15, ground := Ground.guard }], guard := some (15, false) }) (v := undef) rfl (by kernel_rfl) (by kernel_rfl) (by kernel_rfl) (fun _ _ _ h => h) (Or.inr ⟨by rfl, rfl⟩) hHeld ?_
          try simp only [Act.put, List.setIfInBounds_toArray, List.set_cons_zero, List.set_cons_succ]
          refine wpAnyH_take (i := 19) (oi := { dst := some 31, op := Op.indexAddr 23 (Operand.tmp 28) (Operand.tmp 30), type := 0, pos := "locks.go:60", after := #[{ on := 16, ground := Ground.data }, { on := 18, ground := Ground.data }, { on := 15, ground := Ground.guard }], guard := some (15, false) }) (v := undef) rfl (by kernel_rfl) (by kernel_rfl) (by kernel_rfl) (fun _ _ _ h => h) (Or.inr ⟨by rfl, rfl⟩) hHeld ?_
          try simp only [Act.put, List.setIfInBounds_toArray, List.set_cons_zero, List.set_cons_succ]
          refine wpAnyH_take (i := 20) (oi := { dst := some 32, op := Op.load 29 (Operand.tmp 31), type := 29, pos := "locks.go:60", after := #[{ on := 19, ground := Ground.data }, { on := 15, ground := Ground.guard }], guard := some (15, false) }) (v := undef) rfl (by kernel_rfl) (by kernel_rfl) (by kernel_rfl) (fun _ _ _ h => h) (Or.inr ⟨by rfl, rfl⟩) hHeld ?_
          try simp only [Act.put, List.setIfInBounds_toArray, List.set_cons_zero, List.set_cons_succ]
          refine wpAnyH_take (i := 21) (oi := { dst := some 33, op := Op.load 29 (Operand.tmp 4), type := 29, pos := "locks.go:60", after := #[{ on := 15, ground := Ground.guard }], guard := some (15, false) }) (v := undef) rfl (by kernel_rfl) (by kernel_rfl) (by kernel_rfl) (fun _ _ _ h => h) (Or.inr ⟨by rfl, rfl⟩) hHeld ?_
          try simp only [Act.put, List.setIfInBounds_toArray, List.set_cons_zero, List.set_cons_succ]
          refine wpAnyH_ready (rs := [22]) (by kernel_rfl) (by simp) ?_
          refine AllReadyH.cons (o := { dst := some 34, op := Op.call { callee := Callee.value (Operand.func 54), args := #[Operand.tmp 32, Operand.tmp 33], argTypes := #[29, 29] }, type := 4, pos := "locks.go:60", after := #[{ on := 20, ground := Ground.data }, { on := 21, ground := Ground.data }, { on := 15, ground := Ground.chain }, { on := 15, ground := Ground.guard }], guard := some (15, false) }) rfl (fun K hK => ?_) (AllReadyH.nil)
          rw [if_neg (by exact Bool.false_ne_true)]
          have HS63 : Hid (Hp w [.ob B21 29 (grCells x)] w61) := HS62.out
          refine hK.out _ _ ((fun j v hv => by rw [Nat.zero_add]; exact (HS63.out).at 0 rfl j hv)) (fun hHeld => ?_)
          clear hK K
          try simp only [Act.put, List.setIfInBounds_toArray, List.set_cons_zero, List.set_cons_succ]
          refine wpAnyH_take (i := 23) (oi := { dst := some 35, op := Op.pick (Operand.tmp 27) (Operand.const (Value.bool true)) (Operand.tmp 34), type := 4, pos := "locks.go:60", after := #[{ on := 15, ground := Ground.data }, { on := 22, ground := Ground.data }, { on := 6, ground := Ground.guard }], guard := some (6, true) }) (v := undef) rfl (by kernel_rfl) (by kernel_rfl) (by kernel_rfl) (fun _ _ _ h => h) (Or.inr ⟨by rfl, rfl⟩) hHeld ?_
          try simp only [Act.put, List.setIfInBounds_toArray, List.set_cons_zero, List.set_cons_succ]
          refine wpAnyH_take (i := 24) (oi := { dst := some 36, op := Op.pick (Operand.tmp 18) (Operand.tmp 35) (Operand.const (Value.bool false)), type := 4, pos := "locks.go:60", after := #[{ on := 6, ground := Ground.data }, { on := 23, ground := Ground.data }, { on := 3, ground := Ground.guard }], guard := some (3, false) }) (v := ?q222v) rfl (by kernel_rfl) (by kernel_rfl) (by kernel_rfl) (fun _ _ _ h => h) (Or.inl ⟨by rfl, ?q222h⟩) hHeld ?q222r
          case q222h => (intro wq hSw; clear hSw; go_simp; try with_reducible rfl)
          try simp only [Act.put, List.setIfInBounds_toArray, List.set_cons_zero, List.set_cons_succ]
          refine wpAnyH_take (i := 25) (oi := { dst := some 37, op := Op.pick (Operand.tmp 15) (Operand.const (Value.bool true)) (Operand.tmp 36), type := 4, pos := "locks.go:60", after := #[{ on := 3, ground := Ground.data }, { on := 24, ground := Ground.data }], guard := none }) (v := ?q223v) rfl (by kernel_rfl) (by kernel_rfl) (by kernel_rfl) (fun _ _ _ h => h) (Or.inl ⟨by rfl, ?q223h⟩) hHeld ?q223r
          case q223h => (intro wq hSw; clear hSw; go_simp; try with_reducible rfl)
          try simp only [Act.put, List.setIfInBounds_toArray, List.set_cons_zero, List.set_cons_succ]
          refine wpAnyH_done (by kernel_rfl) ?_ _
          clear hHeld
          go_wp2_with fail
          go_roundw
          case rel => exact ⟨0 + 1, HLt.out, by go_num, by rw [lk_take_snoc HXi.out]; exact held_snoc HH.out HOk1.out HU.out HA.out, HS63.out.forget (L := [])⟩
          case measure => simp [intOf]; try (have := HLt.out; omega)
    · obtain rfl : i = l.length := by omega
      have HX := Lib.hid (HYes.out (by have := HH.out; rwa [List.take_length] at this))
      clear hlt hi HH
      go_wp2_with fail
      go_ret
      exact ⟨by rw [HX.out]; rfl, HY.out.old⟩
end Go.Proofs.Ytcnaalbpbalgdaa
/- a set of numbers in a map that the walk has made: which numbers it has -/
namespace Go.Proofs.Ytcnaalbpbalgdaa
open Go.RowKit
open Go.Maps (Keyed)
set_option maxRecDepth 20000

theorem lawI : Keyed Try.prog 3 := Maps.int_keyed Try.underlying3
theorem zeroB (w : World) : (zeroValue 4).run Try.prog w = .ok (.bool false) w := by kernel_rfl
theorem run_makeSet (n : Int) (w : World) : (Instr.makeMap 69 (some (.int .i64 n))).run Try.prog w = .ok (.map (some w.heap.size)) (w.alloc (.map #[] 0)) := by
  simp [Instr.makeMap, run_underlying Try.underlying69, asInt, asIntOf]
def SeenM (W : World) (b n : Nat) (l : List Int) : Prop :=
  ∃ D : DataW Unit, W.ownsMap Try.prog 3 (plainElem Try.prog 4) b n D ∧ ∀ x, (Lit.int .i64 x).wf = true → D.atKey (.int .i64 x) (.lit (.bool false)) = .lit (.bool (decide (x ∈ l)))
theorem SeenM.made (w : World) : SeenM (w.alloc (.map #[] 0)) w.heap.size 0 [] := ⟨_, World.ownsMap_made w _ _ _, fun x _ => by
  rw [WideAt.atKey_none _ (by simp)]; simp⟩
theorem SeenM.kept {w w' : World} {b n : Nat} {l : List Int} {row : Option Nat} (h : SeenM w b n l) (hg : w.grownBy w' row) (hne : some b ≠ row) : SeenM w' b n l := by
  obtain ⟨D, h1, h2⟩ := h
  exact ⟨D, h1.kept hg hne, h2⟩
theorem SeenM.lt {w : World} {b n : Nat} {l : List Int} (h : SeenM w b n l) : b < w.heap.size := by
  obtain ⟨D, h1, _⟩ := h
  exact h1.lt
theorem SeenM.below {w w' : World} {b n : Nat} {l : List Int} (h : SeenM w b n l) (hb : Below w.heap.size w w') : SeenM w' b n l := h.kept (row := none) ⟨hb.os, hb.tape, hb.output, hb.size, fun k hk _ => hb.block k hk⟩ (by simp)
theorem seen_look {w : World} {b n : Nat} {l : List Int} {x : Int} {c : Bool} (h : SeenM w b n l) (hx : (Lit.int .i64 x).wf = true) (hc : decide (x ∈ l) = c) : Sem.run Try.prog (Instr.lookup 69 (.map (some b)) (.int .i64 x) false) w = .ok (.bool c) w := by
  obtain ⟨D, h1, h2⟩ := h
  obtain ⟨v, ps, hr, hv⟩ := h1.lookup lawI Try.underlying69 (zeroB w) (plainElem_bool Try.underlying4 false) (Maps.keyOf_int_mk Try.underlying3 hx)
  rw [h2 x hx, hc] at hv
  have hu := Try.underlying4
  unfold plainElem at hv
  rw [hu] at hv
  cases v <;> simp at hv
  rw [hr, hv.1]
theorem seen_store {w : World} {b n : Nat} {l : List Int} {x : Int} (h : SeenM w b n l) (hn : n < maxLen) (hx : (Lit.int .i64 x).wf = true) : ∃ w', (Instr.mapUpdate 69 (.map (some b)) (.int .i64 x) (.bool true)).run Try.prog w = .ok () w' ∧ SeenM w' b (n + 1) (l ++ [x]) ∧ w.grownBy w' (some b) := by
  obtain ⟨D, h1, h2⟩ := h
  obtain ⟨w', hr, ho, hg⟩ := h1.update lawI Try.underlying69 hn (Maps.keyOf_int_mk Try.underlying3 hx) (plainElem_bool Try.underlying4 true)
  refine ⟨w', hr, ⟨_, ho, fun y hy => ?_⟩, hg⟩
  by_cases e : y = x
  · subst e
    rw [Maps.atKey_put_same h1.isMap (by simp [WideAt.IsKeyLit])]
    simp
  · rw [Maps.atKey_put_other (by intro h; exact e (by injection h)), h2 y hy]
    simp [e]
end Go.Proofs.Ytcnaalbpbalgdaa
/- the program's validWaiting (locks) -/
namespace Go.Proofs.Ytcnaalbpbalgdaa
open Go.RowKit
set_option maxRecDepth 20000
set_option linter.unusedSimpArgs false
set_option linter.unusedVariables false

noncomputable def waitB (h l : List Gr) : Bool := @decide (WaitOk h l) (Classical.propDecidable _)
theorem waitB_iff {h l : List Gr} : waitB h l = true ↔ WaitOk h l := @decide_eq_true_iff _ (Classical.propDecidable _)
theorem waitB_no {h l : List Gr} (k : ¬ WaitOk h l) : waitB h l = false := by
  cases e : waitB h l with
  | false => rfl
  | true => exact absurd (waitB_iff.1 e) k
theorem w_grant {h l : List Gr} {i : Nat} {x : Gr} (hx : l[i]? = some x) (k : grOkB x = false) : waitB h l = false := waitB_no fun q => by
  have := grOkB_iff.2 (q.ok x (List.mem_of_getElem? hx)).1; rw [k] at this; cases this
theorem w_mode {h l : List Gr} {i : Nat} {x : Gr} (hx : l[i]? = some x) (k : x.mode ≤ modeR h x.tx x.page x.slot) : waitB h l = false := waitB_no fun q => by
  have h2 : modeR h x.tx x.page x.slot < x.mode := (q.ok x (List.mem_of_getElem? hx)).2
  omega
theorem w_two {h l : List Gr} {i : Nat} {x : Gr} (hx : l[i]? = some x) (k : x.tx ∈ (l.take i).map Gr.tx) : waitB h l = false := waitB_no fun q => by
  obtain ⟨y, hy, he⟩ := List.mem_map.1 k
  obtain ⟨p, hp, rfl⟩ := List.mem_take_iff_getElem.1 hy
  obtain ⟨hi, rfl⟩ := List.getElem?_eq_some_iff.1 hx
  exact List.pairwise_iff_getElem.1 q.one p i (by omega) hi (by omega) he
theorem wpList_store_seen {ops : Array Oper} {rest : List Oper} {a : Act} {w : World} {Q : Exit → Act → World → Prop} {ty : TypeId} {pos : String} {aft : Array Edge} (m x : Operand) {b n : Nat} {l : List Int} {y : Int} (hs : SeenM w b n l) (hn : n < maxLen) (hy : (Lit.int .i64 y).wf = true)
    (hm : a.eval m = .map (some b)) (hx : a.eval x = .int .i64 y) (hk : ∀ w', SeenM w' b (n + 1) (l ++ [y]) → w.grownBy w' (some b) → wpList Try.prog ops Q rest a w') :
    wpList Try.prog ops Q ({ dst := none, op := .mapUpdate 69 m x (.const (.bool true)), type := ty, pos := pos, after := aft, guard := none } :: rest) a w := by
  refine wpList_plain rfl fun K' hK' => ?_
  obtain ⟨w', hrun, r1, r2⟩ := seen_store hs hn hy
  have hc : a.eval (.const (.bool true)) = .bool true := rfl
  unfold Oper.wp
  simp [execOp, hm, hx, hc, hrun, Result.andThen]
  exact hK' _ _ (hk w' r1 r2)
def BelW (w W : World) : Prop := Below w.heap.size w W
/-- how the loop stands before its round i -/
structure WtRel (w : World) (cs : List Value) (l : List Gr) (i : Nat) (W : World) : Prop where
  old : Below w.heap.size w W
  box : W.heap[w.heap.size]? = some (.cells cs.toArray 25 (0, 0))
  seen : SeenM W (w.heap.size + 1) i ((l.take i).map Gr.tx)
theorem WtRel.next {w W V U : World} {cs : List Value} {l : List Gr} {i : Nat} {x : Gr} (h : WtRel w cs l i W) (hx : l[i]? = some x) (hb : Below W.heap.size W V) (hs : SeenM U (w.heap.size + 1) (i + 1) ((l.take i).map Gr.tx ++ [x.tx])) (hg : V.grownBy U (some (w.heap.size + 1))) : WtRel w cs l (i + 1) U := by
  have h1 := (Array.getElem?_eq_some_iff.1 h.box).1
  have h2 := h.old.trans (hb.mono h.old.size)
  refine ⟨h2.grown hg h2.size (fun k hk => by obtain rfl := Option.some.inj hk; omega), ?_, ?_⟩
  · rw [hg.block _ (Nat.lt_of_lt_of_le h1 hb.size) (by simp), hb.block _ h1]; exact h.box
  · rw [lk_take_snoc hx, List.map_append]; exact hs
set_option maxHeartbeats 8000000 in
theorem validWaiting_any {h v : Value} {t : Tb} {R : List Rng} (w : World) (ht : TbRd h v t R) (hR : RdIn w R) (hg : GoodTb t) (hh : HeldOk t.held) :
    Calls Try.prog 34 #[.agg (tbCells h v).toArray] w fun e w' => e = .returned (.bool (waitB t.held t.wait)) ∧ Below w.heap.size w w' := by
  obtain ⟨a, cap, rfl, hnc, hcm⟩ := ht.1.shape
  have HMo : Hid (∀ tx k W, Below w.heap.size w W → Calls Try.prog 41 #[.slice a t.held.length cap, .int .i64 tx, .agg (lkCells k).toArray] W fun e w' => e = .returned (.int .i64 (modeR t.held tx k.page k.slot)) ∧ Below W.heap.size W w') := fun tx k W hb => pmode_any tx k t.held _ R W hh.up ht.1 (hR.below hb) (by have := hg.few; omega)
  obtain ⟨a2, cap2, rfl, hnc2, hcm2, hg0⟩ := SlRd.open ht.2 hR
  have HGe := Lib.hid hg.wait
  have HN : Hid (t.wait.length ≤ 100000) := hg.few.2
  have HBx : Hid (∃ cs, cs = tbCells (.slice a t.held.length cap) (.slice a2 t.wait.length cap2)) := ⟨_, rfl⟩
  have h1 := (Hp.start w).put 25 (tbCells (.slice a t.held.length cap) (.slice a2 t.wait.length cap2))
  have hbx : (w.alloc (.cells (tbCells (.slice a t.held.length cap) (.slice a2 t.wait.length cap2)).toArray 25)).heap[w.heap.size]? = some (.cells (tbCells (.slice a t.held.length cap) (.slice a2 t.wait.length cap2)).toArray 25 (0, 0)) := h1.get 0 rfl
  have HW0 : Hid (WtRel w (tbCells (.slice a t.held.length cap) (.slice a2 t.wait.length cap2)) t.wait 0 ((w.alloc (.cells (tbCells (.slice a t.held.length cap) (.slice a2 t.wait.length cap2)).toArray 25)).alloc (.map #[] 0))) := by
    refine ⟨h1.old.alloc h1.old.size _, ?_, ?_⟩
    · have hlt := (Array.getElem?_eq_some_iff.1 hbx).1
      rw [((Below.refl _ _).alloc (Nat.le_refl _) (.map #[] 0) : Below _ (w.alloc (.cells (tbCells (.slice a t.held.length cap) (.slice a2 t.wait.length cap2)).toArray 25)) _).block _ hlt]
      exact hbx
    · have := SeenM.made (w.alloc (.cells (tbCells (.slice a t.held.length cap) (.slice a2 t.wait.length cap2)).toArray 25))
      rw [World.size_alloc] at this
      exact this
  have hmk := run_makeSet
  have b0' : (w.alloc (.cells (tbCells (.slice a t.held.length cap) (.slice a2 t.wait.length cap2)).toArray 25)).cell? ⟨w.heap.size, 1, none⟩ = some (.slice a2 t.wait.length cap2) := h1.at 0 rfl 1 rfl
  have HNg : Hid (∀ (i : Nat) (x : Gr), t.wait[i]? = some x → grOkB x = false → waitB t.held t.wait = false) := fun i x => w_grant
  have HNm : Hid (∀ (i : Nat) (x : Gr), t.wait[i]? = some x → x.mode ≤ modeR t.held x.tx x.page x.slot → waitB t.held t.wait = false) := fun i x => w_mode
  have HNt : Hid (∀ (i : Nat) (x : Gr), t.wait[i]? = some x → x.tx ∈ (t.wait.take i).map Gr.tx → waitB t.held t.wait = false) := fun i x => w_two
  have HYes : Hid (WaitOk t.held t.wait → waitB t.held t.wait = true) := waitB_iff.2
  have hwsz : (w.alloc (.cells (tbCells (.slice a t.held.length cap) (.slice a2 t.wait.length cap2)).toArray 25)).heap.size = w.heap.size + 1 := by simp
  clear h1 hbx ht hR hg hh hnc hcm hnc2 hcm2 HBx
  obtain ⟨fs, hu⟩ := under_gr
  have HUG := Lib.hid hu
  clear hu
  obtain ⟨fs2, hu2⟩ := under_lk
  have HUK := Lib.hid hu2
  clear hu2
  generalize waitB t.held t.wait = ok at *
  go_enter Try.func34, Try.ntmps34
  go_upto_region 1 with (fail)
  generalize (w.alloc (.cells (tbCells (.slice a t.held.length cap) (.slice a2 t.wait.length cap2)).toArray 25)) = w1 at *
  go_upto_region 2 with (fail)
  clear hmk b0' hwsz
  generalize w1.alloc (.map #[] 0) = w2 at *
  have b1 : w2.cell? ⟨w.heap.size, 1, none⟩ = some (.slice a2 t.wait.length cap2) := by rw [cell_of_row w2 _ 1 _ _ _ HW0.out.box]; rfl
  go_wp2_with fail
  clear b1
  go_loopw [13] (fun iv wr => ∃ i : Nat, i ≤ t.wait.length ∧ iv = .int .i64 i ∧ WaitOk t.held (t.wait.take i) ∧ WtRel w (tbCells (.slice a t.held.length cap) (.slice a2 t.wait.length cap2)) t.wait i wr) (fun iv _ => t.wait.length - (intOf iv).toNat)
  case atStart => exact ⟨0, by omega, rfl, waitOk_nil _, HW0.out⟩
  case round =>
    clear HW0
    obtain ⟨i, hi, rfl, hh, hs⟩ := hrel
    have HQ := Lib.hid hs
    have HH := Lib.hid hh
    clear hs hh
    by_cases hlt : i < t.wait.length
    · obtain ⟨g, off, rfl, hr⟩ := hg0.out (by omega)
      obtain ⟨x, hx⟩ : ∃ x, t.wait[i]? = some x := ⟨_, List.getElem?_eq_getElem hlt⟩
      have HBw : Hid (∀ W, BelW wr W → Below w.heap.size w W) := fun W (hb : Below wr.heap.size wr W) => HQ.out.old.trans (hb.mono HQ.out.old.size)
      have HRg : Hid (∀ W, BelW wr W → W.rangeAt g (off + i * 4) (grCells x)) := fun W (hb : Below wr.heap.size wr W) => elem_rng (hr W (HBw.out W hb)) hx
      have HBt : Hid (∀ W, BelW wr W → W.rangeAt w.heap.size 0 (tbCells (.slice a t.held.length cap) (.slice (some ⟨g, off, none⟩) t.wait.length cap2))) := fun W (hb : Below wr.heap.size wr W) j v hv => by
        rw [Nat.zero_add, cell_of_row W _ j _ _ _ ((hb.block _ (Array.getElem?_eq_some_iff.1 HQ.out.box).1).trans HQ.out.box), List.getElem?_toArray]; exact hv
      have HSe : Hid (∀ W, BelW wr W → SeenM W (w.heap.size + 1) i ((t.wait.take i).map Gr.tx)) := fun W (hb : Below wr.heap.size wr W) => HQ.out.seen.below hb
      have HXi := Lib.hid hx
      have HGx := Lib.hid (HGe.out x (List.mem_of_getElem? hx))
      have HGr : Hid (∀ W, Calls Try.prog 40 #[.agg (grCells x).toArray] W fun e w' => e = .returned (.bool (grOkB x)) ∧ Below W.heap.size W w') := fun W => pgrant_any x W
      have HOx := Lib.hid (@grOkB_iff x)
      have HMx : Hid (∀ W, Below w.heap.size w W → Calls Try.prog 41 #[.slice a t.held.length cap, .int .i64 x.tx, .agg (lkCells x.lock).toArray] W fun e w' => e = .returned (.int .i64 (modeR t.held x.tx x.page x.slot)) ∧ Below W.heap.size W w') := fun W hb => HMo.out x.tx x.lock W hb
      have hNx := HNg.out i x hx
      have hNm := HNm.out i x hx
      have hNt := HNt.out i x hx
      have hii : (i : Int) < (t.wait.length : Int) := by omega
      have hi0 : (0 : Int) ≤ (i : Int) := by omega
      have hiw : IntKind.i64.wrap ((i : Int) + 1) = (i : Int) + 1 := IntWalk.i64_in _ (by have := HN.out; omega)
      have HIm : Hid (i < maxLen) := by show i < _; have := HN.out; unfold maxLen; omega
      have HLt := Lib.hid hlt
      have HY := Lib.hid (Hp.start wr)
      clear hr hi hx hg0 hlt HMo
      go_upto_region 5 with (first | ((with_reducible refine wpList_load_at 29 (.tmp 15) g ((off + i * 4)) (grCells x) HUG.out ?_ ?_ ?_ ?_ ?_); (exact rfl); (exact (HRg.out _ (HY.out).old)); (exact rfl); (exact info_gr); simp only [Act.put, List.setIfInBounds_toArray, List.set_cons_zero, List.set_cons_succ]) | ((with_reducible refine wpList_alloc_ob 29 (grCells grNil) ?_ ?_); (exact alloc_gr); simp only [Act.put, List.setIfInBounds_toArray, List.set_cons_zero, List.set_cons_succ]) | ((with_reducible refine wpList_store_ob 29 (.tmp 5) (wr.heap.size) (grCells x) (grCells grNil) 29 ?_ ?_ ?_ ?_ ?_ ?_ ?_); (exact rfl); (exact rfl); (exact ((HY.out).put 29 (grCells grNil)).get 0 rfl); (exact info_gr); (exact rfl); (exact (oneCell_gr _)); skip))
      have HS21 : Hid (Hp wr [.ob (wr.heap.size) 29 (grCells x)] ((wr.alloc (.cells (grCells grNil).toArray 29)).setRow (wr.heap.size) (grCells x).toArray)) := ((HY.out).put 29 (grCells grNil)).row 0 rfl (grCells x)
      clear HY
      generalize ((wr.alloc (.cells (grCells grNil).toArray 29)).setRow (wr.heap.size) (grCells x).toArray) = w21 at *
      generalize wr.heap.size = B21 at *
      generalize grOkB x = gb at *
      obtain ⟨mo, hmoe⟩ : ∃ mo, modeR t.held x.tx x.page x.slot = mo := ⟨_, rfl⟩
      have HMe := Lib.hid hmoe
      simp only [hmoe] at HMx hNm
      clear hmoe
      cases gb
      case false =>
        have HX := Lib.hid (hNx rfl)
        clear hNx HOx hNm hNt
        refine wp_region_held_drew (S := fun w' => w'.rangeAt B21 0 (grCells x) ∧ w'.rangeAt w.heap.size 0 (tbCells (.slice a t.held.length cap) (.slice (some ⟨g, off, none⟩) t.wait.length cap2)) ∧ SeenM w' (w.heap.size + 1) i ((t.wait.take i).map Gr.tx)) (by kernel_rfl) (⟨(fun j v hv => by rw [Nat.zero_add]; exact ((HS21.out).drew).at 0 rfl j hv), (HBt.out _ ((HS21.out).drew).old), HSe.out _ ((HS21.out).drew).old⟩) (fun hHeld => ?_)
        refine wpAnyH_take (i := 0) (oi := { dst := some 17, op := Op.load 29 (Operand.tmp 5), type := 29, pos := "locks.go:70", after := #[], guard := none }) rfl (by kernel_rfl) (by kernel_rfl) (by kernel_rfl) (fun _ _ _ h => h) (yieldsIf_load_mid (by rfl) 29 (.tmp 5) rfl B21 (0) rfl (grCells x) _ (fun _ h => h.1) HUG.out rfl (info_gr)) hHeld ?_
        try simp only [Act.put, List.setIfInBounds_toArray, List.set_cons_zero, List.set_cons_succ]
        refine wpAnyH_ready (rs := [1]) (by kernel_rfl) (by simp) ?_
        refine AllReadyH.cons (o := { dst := some 18, op := Op.call { callee := Callee.value (Operand.func 40), args := #[Operand.tmp 17], argTypes := #[29] }, type := 4, pos := "locks.go:70", after := #[{ on := 0, ground := Ground.data }], guard := none }) rfl (fun K hK => ?_) (AllReadyH.nil)
        go_simp
        go_wp2_with (go_at_call 40; refine (HGr.out _).mono ?_; rintro e w61 ⟨rfl, hb⟩)
        have HS61 : Hid (Hp wr [.ob B21 29 (grCells x)] w61) := ((HS21.out).drew).calls hb
        refine hK.out _ _ (⟨(fun j v hv => by rw [Nat.zero_add]; exact (HS61.out).at 0 rfl j hv), (HBt.out _ (HS61.out).old), HSe.out _ (HS61.out).old⟩) (fun hHeld => ?_)
        clear hK K hb
        try simp only [Act.put, List.setIfInBounds_toArray, List.set_cons_zero, List.set_cons_succ]
        refine wpAnyH_take (i := 2) (oi := { dst := some 19, op := Op.unOp UnOp.not 4 (Operand.tmp 18), type := 4, pos := "locks.go:70", after := #[{ on := 1, ground := Ground.data }], guard := none }) (v := .bool true) rfl (by kernel_rfl) (by kernel_rfl) (by kernel_rfl) (fun _ _ _ h => h) (Or.inl ⟨by rfl, ?q102h⟩) hHeld ?q102r
        case q102h => (intro wq hSw; clear hSw; go_simp; try with_reducible rfl)
        try simp only [Act.put, List.setIfInBounds_toArray, List.set_cons_zero, List.set_cons_succ]
        refine wpAnyH_take (i := 3) (oi := { dst := some 20, op := Op.move (Operand.tmp 19), type := 4, pos := "locks.go:70", after := #[{ on := 2, ground := Ground.data }, { on := 1, ground := Ground.chain }], guard := none }) (v := ?q103v) rfl (by kernel_rfl) (by kernel_rfl) (by kernel_rfl) (fun _ _ _ h => h) (Or.inl ⟨by rfl, ?q103h⟩) hHeld ?q103r
        case q103h => (intro wq hSw; clear hSw; go_simp; try with_reducible rfl)
        try simp only [Act.put, List.setIfInBounds_toArray, List.set_cons_zero, List.set_cons_succ]
        refine wpAnyH_take (i := 4) (oi := { dst := some 21, op := Op.move (Operand.tmp 3), type := 69, pos := "locks.go:70", after := #[{ on := 3, ground := Ground.guard }], guard := some (3, false) }) (v := undef) rfl (by kernel_rfl) (by kernel_rfl) (by kernel_rfl) (fun _ _ _ h => h) (Or.inr ⟨by rfl, rfl⟩) hHeld ?_
        try simp only [Act.put, List.setIfInBounds_toArray, List.set_cons_zero, List.set_cons_succ]
        refine wpAnyH_take (i := 5) (oi := { dst := some 22, op := Op.fieldAddr 29 (Operand.tmp 5) 0, type := 0, pos := "locks.go:70", after := #[{ on := 3, ground := Ground.guard }], guard := some (3, false) }) (v := undef) rfl (by kernel_rfl) (by kernel_rfl) (by kernel_rfl) (fun _ _ _ h => h) (Or.inr ⟨by rfl, rfl⟩) hHeld ?_
        try simp only [Act.put, List.setIfInBounds_toArray, List.set_cons_zero, List.set_cons_succ]
        refine wpAnyH_take (i := 6) (oi := { dst := some 23, op := Op.load 3 (Operand.tmp 22), type := 3, pos := "locks.go:70", after := #[{ on := 5, ground := Ground.data }, { on := 3, ground := Ground.guard }], guard := some (3, false) }) (v := undef) rfl (by kernel_rfl) (by kernel_rfl) (by kernel_rfl) (fun _ _ _ h => h) (Or.inr ⟨by rfl, rfl⟩) hHeld ?_
        try simp only [Act.put, List.setIfInBounds_toArray, List.set_cons_zero, List.set_cons_succ]
        refine wpAnyH_take (i := 7) (oi := { dst := some 24, op := Op.lookup 69 (Operand.tmp 21) (Operand.tmp 23) false, type := 4, pos := "locks.go:70", after := #[{ on := 4, ground := Ground.data }, { on := 6, ground := Ground.data }, { on := 3, ground := Ground.guard }], guard := some (3, false) }) (v := undef) rfl (by kernel_rfl) (by kernel_rfl) (by kernel_rfl) (fun _ _ _ h => h) (Or.inr ⟨by rfl, rfl⟩) hHeld ?_
        try simp only [Act.put, List.setIfInBounds_toArray, List.set_cons_zero, List.set_cons_succ]
        refine wpAnyH_take (i := 8) (oi := { dst := some 25, op := Op.pick (Operand.tmp 20) (Operand.const (Value.bool true)) (Operand.tmp 24), type := 4, pos := "locks.go:70", after := #[{ on := 3, ground := Ground.data }, { on := 7, ground := Ground.data }], guard := none }) (v := ?q108v) rfl (by kernel_rfl) (by kernel_rfl) (by kernel_rfl) (fun _ _ _ h => h) (Or.inl ⟨by rfl, ?q108h⟩) hHeld ?q108r
        case q108h => (intro wq hSw; clear hSw; go_simp; try with_reducible rfl)
        try simp only [Act.put, List.setIfInBounds_toArray, List.set_cons_zero, List.set_cons_succ]
        refine wpAnyH_take (i := 9) (oi := { dst := some 26, op := Op.move (Operand.tmp 25), type := 4, pos := "locks.go:70", after := #[{ on := 8, ground := Ground.data }, { on := 3, ground := Ground.chain }], guard := none }) (v := ?q109v) rfl (by kernel_rfl) (by kernel_rfl) (by kernel_rfl) (fun _ _ _ h => h) (Or.inl ⟨by rfl, ?q109h⟩) hHeld ?q109r
        case q109h => (intro wq hSw; clear hSw; go_simp; try with_reducible rfl)
        try simp only [Act.put, List.setIfInBounds_toArray, List.set_cons_zero, List.set_cons_succ]
        refine wpAnyH_take (i := 10) (oi := { dst := some 27, op := Op.fieldAddr 25 (Operand.tmp 1) 0, type := 0, pos := "locks.go:70", after := #[{ on := 9, ground := Ground.guard }], guard := some (9, false) }) (v := undef) rfl (by kernel_rfl) (by kernel_rfl) (by kernel_rfl) (fun _ _ _ h => h) (Or.inr ⟨by rfl, rfl⟩) hHeld ?_
        try simp only [Act.put, List.setIfInBounds_toArray, List.set_cons_zero, List.set_cons_succ]
        refine wpAnyH_take (i := 11) (oi := { dst := some 28, op := Op.load 23 (Operand.tmp 27), type := 23, pos := "locks.go:70", after := #[{ on := 10, ground := Ground.data }, { on := 9, ground := Ground.guard }], guard := some (9, false) }) (v := undef) rfl (by kernel_rfl) (by kernel_rfl) (by kernel_rfl) (fun _ _ _ h => h) (Or.inr ⟨by rfl, rfl⟩) hHeld ?_
        try simp only [Act.put, List.setIfInBounds_toArray, List.set_cons_zero, List.set_cons_succ]
        refine wpAnyH_take (i := 12) (oi := { dst := some 29, op := Op.fieldAddr 29 (Operand.tmp 5) 0, type := 0, pos := "locks.go:70", after := #[{ on := 9, ground := Ground.guard }], guard := some (9, false) }) (v := undef) rfl (by kernel_rfl) (by kernel_rfl) (by kernel_rfl) (fun _ _ _ h => h) (Or.inr ⟨by rfl, rfl⟩) hHeld ?_
        try simp only [Act.put, List.setIfInBounds_toArray, List.set_cons_zero, List.set_cons_succ]
        refine wpAnyH_take (i := 13) (oi := { dst := some 30, op := Op.load 3 (Operand.tmp 29), type := 3, pos := "locks.go:70", after := #[{ on := 12, ground := Ground.data }, { on := 9, ground := Ground.guard }], guard := some (9, false) }) (v := undef) rfl (by kernel_rfl) (by kernel_rfl) (by kernel_rfl) (fun _ _ _ h => h) (Or.inr ⟨by rfl, rfl⟩) hHeld ?_
        try simp only [Act.put, List.setIfInBounds_toArray, List.set_cons_zero, List.set_cons_succ]
        refine wpAnyH_take (i := 14) (oi := { dst := some 31, op := Op.fieldAddr 29 (Operand.tmp 5) 1, type := 0, pos := "locks.go:70", after := #[{ on := 9, ground := Ground.guard }], guard := some (9, false) }) (v := undef) rfl (by kernel_rfl) (by kernel_rfl) (by kernel_rfl) (fun _ _ _ h => h) (Or.inr ⟨by rfl, rfl⟩) hHeld ?_
        try simp only [Act.put, List.setIfInBounds_toArray, List.set_cons_zero, List.set_cons_succ]
        refine wpAnyH_take (i := 15) (oi := { dst := some 32, op := Op.load 27 (Operand.tmp 31), type := 27, pos := "locks.go:70", after := #[{ on := 14, ground := Ground.data }, { on := 9, ground := Ground.guard }], guard := some (9, false) }) (v := undef) rfl (by kernel_rfl) (by kernel_rfl) (by kernel_rfl) (fun _ _ _ h => h) (Or.inr ⟨by rfl, rfl⟩) hHeld ?_
        try simp only [Act.put, List.setIfInBounds_toArray, List.set_cons_zero, List.set_cons_succ]
        refine wpAnyH_take (i := 17) (oi := { dst := some 34, op := Op.fieldAddr 29 (Operand.tmp 5) 2, type := 0, pos := "locks.go:70", after := #[{ on := 9, ground := Ground.guard }], guard := some (9, false) }) (v := undef) rfl (by kernel_rfl) (by kernel_rfl) (by kernel_rfl) (fun _ _ _ h => h) (Or.inr ⟨by rfl, rfl⟩) hHeld ?_
        try simp only [Act.put, List.setIfInBounds_toArray, List.set_cons_zero, List.set_cons_succ]
        refine wpAnyH_take (i := 18) (oi := { dst := some 35, op := Op.load 3 (Operand.tmp 34), type := 3, pos := "locks.go:70", after := #[{ on := 17, ground := Ground.data }, { on := 9, ground := Ground.guard }], guard := some (9, false) }) (v := undef) rfl (by kernel_rfl) (by kernel_rfl) (by kernel_rfl) (fun _ _ _ h => h) (Or.inr ⟨by rfl, rfl⟩) hHeld ?_
        try simp only [Act.put, List.setIfInBounds_toArray, List.set_cons_zero, List.set_cons_succ]
        refine wpAnyH_ready (rs := [16]) (by kernel_rfl) (by simp) ?_
        refine AllReadyH.cons (o := { dst := some 33, op := Op.call { callee := Callee.value (Operand.func 41), args := #[Operand.tmp 28, Operand.tmp 30, Operand.tmp 32], argTypes := #[23, 3, 27] }, type := 3, pos := "locks.go:70", after := #[{ on := 11, ground := Ground.data }, { on := 13, ground := Ground.data }, { on := 15, ground := Ground.data }, { on := 9, ground := Ground.chain }, { on := 9, ground := Ground.guard }], guard := some (9, false) }) rfl (fun K hK => ?_) (AllReadyH.nil)
        rw [if_neg (by exact Bool.false_ne_true)]
        have HS62 : Hid (Hp wr [.ob B21 29 (grCells x)] w61) := HS61.out
        refine hK.out _ _ (⟨(fun j v hv => by rw [Nat.zero_add]; exact (HS62.out).at 0 rfl j hv), (HBt.out _ (HS62.out).old), HSe.out _ (HS62.out).old⟩) (fun hHeld => ?_)
        clear hK K
        try simp only [Act.put, List.setIfInBounds_toArray, List.set_cons_zero, List.set_cons_succ]
        refine wpAnyH_take (i := 19) (oi := { dst := some 36, op := Op.binOp BinOp.geq 3 (Operand.tmp 33) (Operand.tmp 35) 3, type := 4, pos := "locks.go:70", after := #[{ on := 16, ground := Ground.data }, { on := 18, ground := Ground.data }, { on := 9, ground := Ground.guard }], guard := some (9, false) }) (v := undef) rfl (by kernel_rfl) (by kernel_rfl) (by kernel_rfl) (fun _ _ _ h => h) (Or.inr ⟨by rfl, rfl⟩) hHeld ?_
        try simp only [Act.put, List.setIfInBounds_toArray, List.set_cons_zero, List.set_cons_succ]
        refine wpAnyH_take (i := 20) (oi := { dst := some 37, op := Op.pick (Operand.tmp 26) (Operand.const (Value.bool true)) (Operand.tmp 36), type := 4, pos := "locks.go:70", after := #[{ on := 9, ground := Ground.data }, { on := 19, ground := Ground.data }], guard := none }) (v := ?q119v) rfl (by kernel_rfl) (by kernel_rfl) (by kernel_rfl) (fun _ _ _ h => h) (Or.inl ⟨by rfl, ?q119h⟩) hHeld ?q119r
        case q119h => (intro wq hSw; clear hSw; go_simp; try with_reducible rfl)
        try simp only [Act.put, List.setIfInBounds_toArray, List.set_cons_zero, List.set_cons_succ]
        refine wpAnyH_done (by kernel_rfl) ?_ _
        clear hHeld
        go_wp2_with fail
        go_ret
        exact ⟨by rw [HX.out]; rfl, HBw.out _ (HS62.out).old⟩
      case true =>
        have HOk1 := Lib.hid (HOx.out.1 rfl)
        clear hNx HOx
        by_cases hm : x.tx ∈ (t.wait.take i).map Gr.tx
        · have HX := Lib.hid (hNt hm)
          have HMem := Lib.hid (decide_eq_true hm)
          clear hNm hNt hm
          refine wp_region_held_drew (S := fun w' => w'.rangeAt B21 0 (grCells x) ∧ w'.rangeAt w.heap.size 0 (tbCells (.slice a t.held.length cap) (.slice (some ⟨g, off, none⟩) t.wait.length cap2)) ∧ SeenM w' (w.heap.size + 1) i ((t.wait.take i).map Gr.tx)) (by kernel_rfl) (⟨(fun j v hv => by rw [Nat.zero_add]; exact ((HS21.out).drew).at 0 rfl j hv), (HBt.out _ ((HS21.out).drew).old), HSe.out _ ((HS21.out).drew).old⟩) (fun hHeld => ?_)
          refine wpAnyH_take (i := 0) (oi := { dst := some 17, op := Op.load 29 (Operand.tmp 5), type := 29, pos := "locks.go:70", after := #[], guard := none }) rfl (by kernel_rfl) (by kernel_rfl) (by kernel_rfl) (fun _ _ _ h => h) (yieldsIf_load_mid (by rfl) 29 (.tmp 5) rfl B21 (0) rfl (grCells x) _ (fun _ h => h.1) HUG.out rfl (info_gr)) hHeld ?_
          try simp only [Act.put, List.setIfInBounds_toArray, List.set_cons_zero, List.set_cons_succ]
          refine wpAnyH_ready (rs := [1]) (by kernel_rfl) (by simp) ?_
          refine AllReadyH.cons (o := { dst := some 18, op := Op.call { callee := Callee.value (Operand.func 40), args := #[Operand.tmp 17], argTypes := #[29] }, type := 4, pos := "locks.go:70", after := #[{ on := 0, ground := Ground.data }], guard := none }) rfl (fun K hK => ?_) (AllReadyH.nil)
          go_simp
          go_wp2_with (go_at_call 40; refine (HGr.out _).mono ?_; rintro e w61 ⟨rfl, hb⟩)
          have HS61 : Hid (Hp wr [.ob B21 29 (grCells x)] w61) := ((HS21.out).drew).calls hb
          refine hK.out _ _ (⟨(fun j v hv => by rw [Nat.zero_add]; exact (HS61.out).at 0 rfl j hv), (HBt.out _ (HS61.out).old), HSe.out _ (HS61.out).old⟩) (fun hHeld => ?_)
          clear hK K hb
          try simp only [Act.put, List.setIfInBounds_toArray, List.set_cons_zero, List.set_cons_succ]
          refine wpAnyH_take (i := 2) (oi := { dst := some 19, op := Op.unOp UnOp.not 4 (Operand.tmp 18), type := 4, pos := "locks.go:70", after := #[{ on := 1, ground := Ground.data }], guard := none }) (v := .bool false) rfl (by kernel_rfl) (by kernel_rfl) (by kernel_rfl) (fun _ _ _ h => h) (Or.inl ⟨by rfl, ?q202h⟩) hHeld ?q202r
          case q202h => (intro wq hSw; clear hSw; go_simp; try with_reducible rfl)
          try simp only [Act.put, List.setIfInBounds_toArray, List.set_cons_zero, List.set_cons_succ]
          refine wpAnyH_take (i := 3) (oi := { dst := some 20, op := Op.move (Operand.tmp 19), type := 4, pos := "locks.go:70", after := #[{ on := 2, ground := Ground.data }, { on := 1, ground := Ground.chain }], guard := none }) (v := ?q203v) rfl (by kernel_rfl) (by kernel_rfl) (by kernel_rfl) (fun _ _ _ h => h) (Or.inl ⟨by rfl, ?q203h⟩) hHeld ?q203r
          case q203h => (intro wq hSw; clear hSw; go_simp; try with_reducible rfl)
          try simp only [Act.put, List.setIfInBounds_toArray, List.set_cons_zero, List.set_cons_succ]
          refine wpAnyH_take (i := 4) (oi := { dst := some 21, op := Op.move (Operand.tmp 3), type := 69, pos := "locks.go:70", after := #[{ on := 3, ground := Ground.guard }], guard := some (3, false) }) (v := ?q204v) rfl (by kernel_rfl) (by kernel_rfl) (by kernel_rfl) (fun _ _ _ h => h) (Or.inl ⟨by rfl, ?q204h⟩) hHeld ?q204r
          case q204h => (intro wq hSw; clear hSw; go_simp; try with_reducible rfl)
          try simp only [Act.put, List.setIfInBounds_toArray, List.set_cons_zero, List.set_cons_succ]
          refine wpAnyH_take (i := 5) (oi := { dst := some 22, op := Op.fieldAddr 29 (Operand.tmp 5) 0, type := 0, pos := "locks.go:70", after := #[{ on := 3, ground := Ground.guard }], guard := some (3, false) }) (v := ?q205v) rfl (by kernel_rfl) (by kernel_rfl) (by kernel_rfl) (fun _ _ _ h => h) (Or.inl ⟨by rfl, ?q205h⟩) hHeld ?q205r
          case q205h => (intro wq hSw; clear hSw; go_simp; try with_reducible rfl)
          try simp only [Act.put, List.setIfInBounds_toArray, List.set_cons_zero, List.set_cons_succ]
          refine wpAnyH_take (i := 6) (oi := { dst := some 23, op := Op.load 3 (Operand.tmp 22), type := 3, pos := "locks.go:70", after := #[{ on := 5, ground := Ground.data }, { on := 3, ground := Ground.guard }], guard := some (3, false) }) (v := .int .i64 x.tx) rfl (by kernel_rfl) (by kernel_rfl) (by kernel_rfl) (fun _ _ _ h => h) (Or.inl ⟨by rfl, ?q206h⟩) hHeld ?q206r
          case q206h => (intro wq hSw; have lq := (hSw.1) 0 (.int .i64 x.tx) rfl; simp only [Nat.zero_add] at lq; clear hSw; go_simp; try with_reducible rfl)
          try simp only [Act.put, List.setIfInBounds_toArray, List.set_cons_zero, List.set_cons_succ]
          refine wpAnyH_take (i := 7) (oi := { dst := some 24, op := Op.lookup 69 (Operand.tmp 21) (Operand.tmp 23) false, type := 4, pos := "locks.go:70", after := #[{ on := 4, ground := Ground.data }, { on := 6, ground := Ground.data }, { on := 3, ground := Ground.guard }], guard := some (3, false) }) (v := .bool true) rfl (by kernel_rfl) (by kernel_rfl) (by kernel_rfl) (fun _ _ _ h => h) (Or.inl ⟨by rfl, ?q207h⟩) hHeld ?q207r
          case q207h => (intro wq hSw; have lq := seen_look hSw.2.2 HGx.out.tx HMem.out; clear hSw; go_simp; try with_reducible rfl)
          try simp only [Act.put, List.setIfInBounds_toArray, List.set_cons_zero, List.set_cons_succ]
          refine wpAnyH_take (i := 8) (oi := { dst := some 25, op := Op.pick (Operand.tmp 20) (Operand.const (Value.bool true)) (Operand.tmp 24), type := 4, pos := "locks.go:70", after := #[{ on := 3, ground := Ground.data }, { on := 7, ground := Ground.data }], guard := none }) (v := ?q208v) rfl (by kernel_rfl) (by kernel_rfl) (by kernel_rfl) (fun _ _ _ h => h) (Or.inl ⟨by rfl, ?q208h⟩) hHeld ?q208r
          case q208h => (intro wq hSw; clear hSw; go_simp; try with_reducible rfl)
          try simp only [Act.put, List.setIfInBounds_toArray, List.set_cons_zero, List.set_cons_succ]
          refine wpAnyH_take (i := 9) (oi := { dst := some 26, op := Op.move (Operand.tmp 25), type := 4, pos := "locks.go:70", after := #[{ on := 8, ground := Ground.data }, { on := 3, ground := Ground.chain }], guard := none }) (v := ?q209v) rfl (by kernel_rfl) (by kernel_rfl) (by kernel_rfl) (fun _ _ _ h => h) (Or.inl ⟨by rfl, ?q209h⟩) hHeld ?q209r
          case q209h => (intro wq hSw; clear hSw; go_simp; try with_reducible rfl)
          try simp only [Act.put, List.setIfInBounds_toArray, List.set_cons_zero, List.set_cons_succ]
          refine wpAnyH_take (i := 10) (oi := { dst := some 27, op := Op.fieldAddr 25 (Operand.tmp 1) 0, type := 0, pos := "locks.go:70", after := #[{ on := 9, ground := Ground.guard }], guard := some (9, false) }) (v := undef) rfl (by kernel_rfl) (by kernel_rfl) (by kernel_rfl) (fun _ _ _ h => h) (Or.inr ⟨by rfl, rfl⟩) hHeld ?_
          try simp only [Act.put, List.setIfInBounds_toArray, List.set_cons_zero, List.set_cons_succ]
          refine wpAnyH_take (i := 11) (oi := { dst := some 28, op := Op.load 23 (Operand.tmp 27), type := 23, pos := "locks.go:70", after := #[{ on := 10, ground := Ground.data }, { on := 9, ground := Ground.guard }], guard := some (9, false) }) (v := undef) rfl (by kernel_rfl) (by kernel_rfl) (by kernel_rfl) (fun _ _ _ h => h) (Or.inr ⟨by rfl, rfl⟩) hHeld ?_
          try simp only [Act.put, List.setIfInBounds_toArray, List.set_cons_zero, List.set_cons_succ]
          refine wpAnyH_take (i := 12) (oi := { dst := some 29, op := Op.fieldAddr 29 (Operand.tmp 5) 0, type := 0, pos := "locks.go:70", after := #[{ on := 9, ground := Ground.guard }], guard := some (9, false) }) (v := undef) rfl (by kernel_rfl) (by kernel_rfl) (by kernel_rfl) (fun _ _ _ h => h) (Or.inr ⟨by rfl, rfl⟩) hHeld ?_
          try simp only [Act.put, List.setIfInBounds_toArray, List.set_cons_zero, List.set_cons_succ]
          refine wpAnyH_take (i := 13) (oi := { dst := some 30, op := Op.load 3 (Operand.tmp 29), type := 3, pos := "locks.go:70", after := #[{ on := 12, ground := Ground.data }, { on := 9, ground := Ground.guard }], guard := some (9, false) }) (v := undef) rfl (by kernel_rfl) (by kernel_rfl) (by kernel_rfl) (fun _ _ _ h => h) (Or.inr ⟨by rfl, rfl⟩) hHeld ?_
          try simp only [Act.put, List.setIfInBounds_toArray, List.set_cons_zero, List.set_cons_succ]
          refine wpAnyH_take (i := 14) (oi := { dst := some 31, op := Op.fieldAddr 29 (Operand.tmp 5) 1, type := 0, pos := "locks.go:70", after := #[{ on := 9, ground := Ground.guard }], guard := some (9, false) }) (v := undef) rfl (by kernel_rfl) (by kernel_rfl) (by kernel_rfl) (fun _ _ _ h => h) (Or.inr ⟨by rfl, rfl⟩) hHeld ?_
          try simp only [Act.put, List.setIfInBounds_toArray, List.set_cons_zero, List.set_cons_succ]
          refine wpAnyH_take (i := 15) (oi := { dst := some 32, op := Op.load 27 (Operand.tmp 31), type := 27, pos := "locks.go:70", after := #[{ on := 14, ground := Ground.data }, { on := 9, ground := Ground.guard }], guard := some (9, false) }) (v := undef) rfl (by kernel_rfl) (by kernel_rfl) (by kernel_rfl) (fun _ _ _ h => h) (Or.inr ⟨by rfl, rfl⟩) hHeld ?_
          try simp only [Act.put, List.setIfInBounds_toArray, List.set_cons_zero, List.set_cons_succ]
          refine wpAnyH_take (i := 17) (oi := { dst := some 34, op := Op.fieldAddr 29 (Operand.tmp 5) 2, type := 0, pos := "locks.go:70", after := #[{ on := 9, ground := Ground.guard }], guard := some (9, false) }) (v := undef) rfl (by kernel_rfl) (by kernel_rfl) (by kernel_rfl) (fun _ _ _ h => h) (Or.inr ⟨by rfl, rfl⟩) hHeld ?_
          try simp only [Act.put, List.setIfInBounds_toArray, List.set_cons_zero, List.set_cons_succ]
          refine wpAnyH_take (i := 18) (oi := { dst := some 35, op := Op.load 3 (Operand.tmp 34), type := 3, pos := "locks.go:70", after := #[{ on := 17, ground := Ground.data }, { on := 9, ground := Ground.guard }], guard := some (9, false) }) (v := undef) rfl (by kernel_rfl) (by kernel_rfl) (by kernel_rfl) (fun _ _ _ h => h) (Or.inr ⟨by rfl, rfl⟩) hHeld ?_
          try simp only [Act.put, List.setIfInBounds_toArray, List.set_cons_zero, List.set_cons_succ]
          refine wpAnyH_ready (rs := [16]) (by kernel_rfl) (by simp) ?_
          refine AllReadyH.cons (o := { dst := some 33, op := Op.call { callee := Callee.value (Operand.func 41), args := #[Operand.tmp 28, Operand.tmp 30, Operand.tmp 32], argTypes := #[23, 3, 27] }, type := 3, pos := "locks.go:70", after := #[{ on := 11, ground := Ground.data }, { on := 13, ground := Ground.data }, { on := 15, ground := Ground.data }, { on := 9, ground := Ground.chain }, { on := 9, ground := Ground.guard }], guard := some (9, false) }) rfl (fun K hK => ?_) (AllReadyH.nil)
          rw [if_neg (by exact Bool.false_ne_true)]
          have HS62 : Hid (Hp wr [.ob B21 29 (grCells x)] w61) := HS61.out
          refine hK.out _ _ (⟨(fun j v hv => by rw [Nat.zero_add]; exact (HS62.out).at 0 rfl j hv), (HBt.out _ (HS62.out).old), HSe.out _ (HS62.out).old⟩) (fun hHeld => ?_)
          clear hK K
          try simp only [Act.put, List.setIfInBounds_toArray, List.set_cons_zero, List.set_cons_succ]
          refine wpAnyH_take (i := 19) (oi := { dst := some 36, op := Op.binOp BinOp.geq 3 (Operand.tmp 33) (Operand.tmp 35) 3, type := 4, pos := "locks.go:70", after := #[{ on := 16, ground := Ground.data }, { on := 18, ground := Ground.data }, { on := 9, ground := Ground.guard }], guard := some (9, false) }) (v := undef) rfl (by kernel_rfl) (by kernel_rfl) (by kernel_rfl) (fun _ _ _ h => h) (Or.inr ⟨by rfl, rfl⟩) hHeld ?_
          try simp only [Act.put, List.setIfInBounds_toArray, List.set_cons_zero, List.set_cons_succ]
          refine wpAnyH_take (i := 20) (oi := { dst := some 37, op := Op.pick (Operand.tmp 26) (Operand.const (Value.bool true)) (Operand.tmp 36), type := 4, pos := "locks.go:70", after := #[{ on := 9, ground := Ground.data }, { on := 19, ground := Ground.data }], guard := none }) (v := ?q219v) rfl (by kernel_rfl) (by kernel_rfl) (by kernel_rfl) (fun _ _ _ h => h) (Or.inl ⟨by rfl, ?q219h⟩) hHeld ?q219r
          case q219h => (intro wq hSw; clear hSw; go_simp; try with_reducible rfl)
          try simp only [Act.put, List.setIfInBounds_toArray, List.set_cons_zero, List.set_cons_succ]
          refine wpAnyH_done (by kernel_rfl) ?_ _
          clear hHeld
          go_wp2_with fail
          go_ret
          exact ⟨by rw [HX.out]; rfl, HBw.out _ (HS62.out).old⟩
        · have HMem := Lib.hid (decide_eq_false hm)
          have HM1 := Lib.hid hm
          clear hNt hm
          by_cases hmo : x.mode ≤ mo
          · have HX := Lib.hid (hNm hmo)
            have dmo : decide (x.mode ≤ mo) = true := decide_eq_true hmo
            clear hNm hmo
            refine wp_region_held_drew (S := fun w' => w'.rangeAt B21 0 (grCells x) ∧ w'.rangeAt w.heap.size 0 (tbCells (.slice a t.held.length cap) (.slice (some ⟨g, off, none⟩) t.wait.length cap2)) ∧ SeenM w' (w.heap.size + 1) i ((t.wait.take i).map Gr.tx)) (by kernel_rfl) (⟨(fun j v hv => by rw [Nat.zero_add]; exact ((HS21.out).drew).at 0 rfl j hv), (HBt.out _ ((HS21.out).drew).old), HSe.out _ ((HS21.out).drew).old⟩) (fun hHeld => ?_)
            refine wpAnyH_take (i := 0) (oi := { dst := some 17, op := Op.load 29 (Operand.tmp 5), type := 29, pos := "locks.go:70", after := #[], guard := none }) rfl (by kernel_rfl) (by kernel_rfl) (by kernel_rfl) (fun _ _ _ h => h) (yieldsIf_load_mid (by rfl) 29 (.tmp 5) rfl B21 (0) rfl (grCells x) _ (fun _ h => h.1) HUG.out rfl (info_gr)) hHeld ?_
            try simp only [Act.put, List.setIfInBounds_toArray, List.set_cons_zero, List.set_cons_succ]
            refine wpAnyH_ready (rs := [1]) (by kernel_rfl) (by simp) ?_
            refine AllReadyH.cons (o := { dst := some 18, op := Op.call { callee := Callee.value (Operand.func 40), args := #[Operand.tmp 17], argTypes := #[29] }, type := 4, pos := "locks.go:70", after := #[{ on := 0, ground := Ground.data }], guard := none }) rfl (fun K hK => ?_) (AllReadyH.nil)
            go_simp
            go_wp2_with (go_at_call 40; refine (HGr.out _).mono ?_; rintro e w61 ⟨rfl, hb⟩)
            have HS61 : Hid (Hp wr [.ob B21 29 (grCells x)] w61) := ((HS21.out).drew).calls hb
            refine hK.out _ _ (⟨(fun j v hv => by rw [Nat.zero_add]; exact (HS61.out).at 0 rfl j hv), (HBt.out _ (HS61.out).old), HSe.out _ (HS61.out).old⟩) (fun hHeld => ?_)
            clear hK K hb
            try simp only [Act.put, List.setIfInBounds_toArray, List.set_cons_zero, List.set_cons_succ]
            refine wpAnyH_take (i := 2) (oi := { dst := some 19, op := Op.unOp UnOp.not 4 (Operand.tmp 18), type := 4, pos := "locks.go:70", after := #[{ on := 1, ground := Ground.data }], guard := none }) (v := .bool false) rfl (by kernel_rfl) (by kernel_rfl) (by kernel_rfl) (fun _ _ _ h => h) (Or.inl ⟨by rfl, ?q302h⟩) hHeld ?q302r
            case q302h => (intro wq hSw; clear hSw; go_simp; try with_reducible rfl)
            try simp only [Act.put, List.setIfInBounds_toArray, List.set_cons_zero, List.set_cons_succ]
            refine wpAnyH_take (i := 3) (oi := { dst := some 20, op := Op.move (Operand.tmp 19), type := 4, pos := "locks.go:70", after := #[{ on := 2, ground := Ground.data }, { on := 1, ground := Ground.chain }], guard := none }) (v := ?q303v) rfl (by kernel_rfl) (by kernel_rfl) (by kernel_rfl) (fun _ _ _ h => h) (Or.inl ⟨by rfl, ?q303h⟩) hHeld ?q303r
            case q303h => (intro wq hSw; clear hSw; go_simp; try with_reducible rfl)
            try simp only [Act.put, List.setIfInBounds_toArray, List.set_cons_zero, List.set_cons_succ]
            refine wpAnyH_take (i := 4) (oi := { dst := some 21, op := Op.move (Operand.tmp 3), type := 69, pos := "locks.go:70", after := #[{ on := 3, ground := Ground.guard }], guard := some (3, false) }) (v := ?q304v) rfl (by kernel_rfl) (by kernel_rfl) (by kernel_rfl) (fun _ _ _ h => h) (Or.inl ⟨by rfl, ?q304h⟩) hHeld ?q304r
            case q304h => (intro wq hSw; clear hSw; go_simp; try with_reducible rfl)
            try simp only [Act.put, List.setIfInBounds_toArray, List.set_cons_zero, List.set_cons_succ]
            refine wpAnyH_take (i := 5) (oi := { dst := some 22, op := Op.fieldAddr 29 (Operand.tmp 5) 0, type := 0, pos := "locks.go:70", after := #[{ on := 3, ground := Ground.guard }], guard := some (3, false) }) (v := ?q305v) rfl (by kernel_rfl) (by kernel_rfl) (by kernel_rfl) (fun _ _ _ h => h) (Or.inl ⟨by rfl, ?q305h⟩) hHeld ?q305r
            case q305h => (intro wq hSw; clear hSw; go_simp; try with_reducible rfl)
            try simp only [Act.put, List.setIfInBounds_toArray, List.set_cons_zero, List.set_cons_succ]
            refine wpAnyH_take (i := 6) (oi := { dst := some 23, op := Op.load 3 (Operand.tmp 22), type := 3, pos := "locks.go:70", after := #[{ on := 5, ground := Ground.data }, { on := 3, ground := Ground.guard }], guard := some (3, false) }) (v := .int .i64 x.tx) rfl (by kernel_rfl) (by kernel_rfl) (by kernel_rfl) (fun _ _ _ h => h) (Or.inl ⟨by rfl, ?q306h⟩) hHeld ?q306r
            case q306h => (intro wq hSw; have lq := (hSw.1) 0 (.int .i64 x.tx) rfl; simp only [Nat.zero_add] at lq; clear hSw; go_simp; try with_reducible rfl)
            try simp only [Act.put, List.setIfInBounds_toArray, List.set_cons_zero, List.set_cons_succ]
            refine wpAnyH_take (i := 7) (oi := { dst := some 24, op := Op.lookup 69 (Operand.tmp 21) (Operand.tmp 23) false, type := 4, pos := "locks.go:70", after := #[{ on := 4, ground := Ground.data }, { on := 6, ground := Ground.data }, { on := 3, ground := Ground.guard }], guard := some (3, false) }) (v := .bool false) rfl (by kernel_rfl) (by kernel_rfl) (by kernel_rfl) (fun _ _ _ h => h) (Or.inl ⟨by rfl, ?q307h⟩) hHeld ?q307r
            case q307h => (intro wq hSw; have lq := seen_look hSw.2.2 HGx.out.tx HMem.out; clear hSw; go_simp; try with_reducible rfl)
            try simp only [Act.put, List.setIfInBounds_toArray, List.set_cons_zero, List.set_cons_succ]
            refine wpAnyH_take (i := 8) (oi := { dst := some 25, op := Op.pick (Operand.tmp 20) (Operand.const (Value.bool true)) (Operand.tmp 24), type := 4, pos := "locks.go:70", after := #[{ on := 3, ground := Ground.data }, { on := 7, ground := Ground.data }], guard := none }) (v := ?q308v) rfl (by kernel_rfl) (by kernel_rfl) (by kernel_rfl) (fun _ _ _ h => h) (Or.inl ⟨by rfl, ?q308h⟩) hHeld ?q308r
            case q308h => (intro wq hSw; clear hSw; go_simp; try with_reducible rfl)
            try simp only [Act.put, List.setIfInBounds_toArray, List.set_cons_zero, List.set_cons_succ]
            refine wpAnyH_take (i := 9) (oi := { dst := some 26, op := Op.move (Operand.tmp 25), type := 4, pos := "locks.go:70", after := #[{ on := 8, ground := Ground.data }, { on := 3, ground := Ground.chain }], guard := none }) (v := ?q309v) rfl (by kernel_rfl) (by kernel_rfl) (by kernel_rfl) (fun _ _ _ h => h) (Or.inl ⟨by rfl, ?q309h⟩) hHeld ?q309r
            case q309h => (intro wq hSw; clear hSw; go_simp; try with_reducible rfl)
            try simp only [Act.put, List.setIfInBounds_toArray, List.set_cons_zero, List.set_cons_succ]
            refine wpAnyH_take (i := 10) (oi := { dst := some 27, op := Op.fieldAddr 25 (Operand.tmp 1) 0, type := 0, pos := "locks.go:70", after := #[{ on := 9, ground := Ground.guard }], guard := some (9, false) }) (v := ?q310v) rfl (by kernel_rfl) (by kernel_rfl) (by kernel_rfl) (fun _ _ _ h => h) (Or.inl ⟨by rfl, ?q310h⟩) hHeld ?q310r
            case q310h => (intro wq hSw; clear hSw; go_simp; try with_reducible rfl)
            try simp only [Act.put, List.setIfInBounds_toArray, List.set_cons_zero, List.set_cons_succ]
            refine wpAnyH_take (i := 11) (oi := { dst := some 28, op := Op.load 23 (Operand.tmp 27), type := 23, pos := "locks.go:70", after := #[{ on := 10, ground := Ground.data }, { on := 9, ground := Ground.guard }], guard := some (9, false) }) (v := .slice a t.held.length cap) rfl (by kernel_rfl) (by kernel_rfl) (by kernel_rfl) (fun _ _ _ h => h) (Or.inl ⟨by rfl, ?q311h⟩) hHeld ?q311r
            case q311h => (intro wq hSw; have lq := (hSw.2.1) 0 (.slice a t.held.length cap) rfl; simp only [Nat.zero_add] at lq; clear hSw; go_simp; try with_reducible rfl)
            try simp only [Act.put, List.setIfInBounds_toArray, List.set_cons_zero, List.set_cons_succ]
            refine wpAnyH_take (i := 12) (oi := { dst := some 29, op := Op.fieldAddr 29 (Operand.tmp 5) 0, type := 0, pos := "locks.go:70", after := #[{ on := 9, ground := Ground.guard }], guard := some (9, false) }) (v := ?q312v) rfl (by kernel_rfl) (by kernel_rfl) (by kernel_rfl) (fun _ _ _ h => h) (Or.inl ⟨by rfl, ?q312h⟩) hHeld ?q312r
            case q312h => (intro wq hSw; clear hSw; go_simp; try with_reducible rfl)
            try simp only [Act.put, List.setIfInBounds_toArray, List.set_cons_zero, List.set_cons_succ]
            refine wpAnyH_take (i := 13) (oi := { dst := some 30, op := Op.load 3 (Operand.tmp 29), type := 3, pos := "locks.go:70", after := #[{ on := 12, ground := Ground.data }, { on := 9, ground := Ground.guard }], guard := some (9, false) }) (v := .int .i64 x.tx) rfl (by kernel_rfl) (by kernel_rfl) (by kernel_rfl) (fun _ _ _ h => h) (Or.inl ⟨by rfl, ?q313h⟩) hHeld ?q313r
            case q313h => (intro wq hSw; have lq := (hSw.1) 0 (.int .i64 x.tx) rfl; simp only [Nat.zero_add] at lq; clear hSw; go_simp; try with_reducible rfl)
            try simp only [Act.put, List.setIfInBounds_toArray, List.set_cons_zero, List.set_cons_succ]
            refine wpAnyH_take (i := 14) (oi := { dst := some 31, op := Op.fieldAddr 29 (Operand.tmp 5) 1, type := 0, pos := "locks.go:70", after := #[{ on := 9, ground := Ground.guard }], guard := some (9, false) }) (v := ?q314v) rfl (by kernel_rfl) (by kernel_rfl) (by kernel_rfl) (fun _ _ _ h => h) (Or.inl ⟨by rfl, ?q314h⟩) hHeld ?q314r
            case q314h => (intro wq hSw; clear hSw; go_simp; try with_reducible rfl)
            try simp only [Act.put, List.setIfInBounds_toArray, List.set_cons_zero, List.set_cons_succ]
            refine wpAnyH_take (i := 15) (oi := { dst := some 32, op := Op.load 27 (Operand.tmp 31), type := 27, pos := "locks.go:70", after := #[{ on := 14, ground := Ground.data }, { on := 9, ground := Ground.guard }], guard := some (9, false) }) rfl (by kernel_rfl) (by kernel_rfl) (by kernel_rfl) (fun _ _ _ h => h) (yieldsIf_load_mid (by rfl) 27 (.tmp 31) rfl B21 (1) rfl (lkCells x.lock) _ (fun _ h => range_part (h.1) (mid_lk x)) HUK.out rfl (info_lk)) hHeld ?_
            try simp only [Act.put, List.setIfInBounds_toArray, List.set_cons_zero, List.set_cons_succ]
            refine wpAnyH_take (i := 17) (oi := { dst := some 34, op := Op.fieldAddr 29 (Operand.tmp 5) 2, type := 0, pos := "locks.go:70", after := #[{ on := 9, ground := Ground.guard }], guard := some (9, false) }) (v := ?q316v) rfl (by kernel_rfl) (by kernel_rfl) (by kernel_rfl) (fun _ _ _ h => h) (Or.inl ⟨by rfl, ?q316h⟩) hHeld ?q316r
            case q316h => (intro wq hSw; clear hSw; go_simp; try with_reducible rfl)
            try simp only [Act.put, List.setIfInBounds_toArray, List.set_cons_zero, List.set_cons_succ]
            refine wpAnyH_take (i := 18) (oi := { dst := some 35, op := Op.load 3 (Operand.tmp 34), type := 3, pos := "locks.go:70", after := #[{ on := 17, ground := Ground.data }, { on := 9, ground := Ground.guard }], guard := some (9, false) }) (v := .int .i64 x.mode) rfl (by kernel_rfl) (by kernel_rfl) (by kernel_rfl) (fun _ _ _ h => h) (Or.inl ⟨by rfl, ?q317h⟩) hHeld ?q317r
            case q317h => (intro wq hSw; have lq := (hSw.1) 3 (.int .i64 x.mode) rfl; simp only [Nat.zero_add] at lq; clear hSw; go_simp; try with_reducible rfl)
            try simp only [Act.put, List.setIfInBounds_toArray, List.set_cons_zero, List.set_cons_succ]
            refine wpAnyH_ready (rs := [16]) (by kernel_rfl) (by simp) ?_
            refine AllReadyH.cons (o := { dst := some 33, op := Op.call { callee := Callee.value (Operand.func 41), args := #[Operand.tmp 28, Operand.tmp 30, Operand.tmp 32], argTypes := #[23, 3, 27] }, type := 3, pos := "locks.go:70", after := #[{ on := 11, ground := Ground.data }, { on := 13, ground := Ground.data }, { on := 15, ground := Ground.data }, { on := 9, ground := Ground.chain }, { on := 9, ground := Ground.guard }], guard := some (9, false) }) rfl (fun K hK => ?_) (AllReadyH.nil)
            go_simp
            go_wp2_with (go_at_call 41; refine (HMx.out _ (HBw.out _ (HS61.out).old)).mono ?_; rintro e w62 ⟨rfl, hb⟩)
            have HS62 : Hid (Hp wr [.ob B21 29 (grCells x)] w62) := (HS61.out).calls hb
            refine hK.out _ _ (⟨(fun j v hv => by rw [Nat.zero_add]; exact (HS62.out).at 0 rfl j hv), (HBt.out _ (HS62.out).old), HSe.out _ (HS62.out).old⟩) (fun hHeld => ?_)
            clear hK K hb
            try simp only [Act.put, List.setIfInBounds_toArray, List.set_cons_zero, List.set_cons_succ]
            refine wpAnyH_take (i := 19) (oi := { dst := some 36, op := Op.binOp BinOp.geq 3 (Operand.tmp 33) (Operand.tmp 35) 3, type := 4, pos := "locks.go:70", after := #[{ on := 16, ground := Ground.data }, { on := 18, ground := Ground.data }, { on := 9, ground := Ground.guard }], guard := some (9, false) }) (v := .bool true) rfl (by kernel_rfl) (by kernel_rfl) (by kernel_rfl) (fun _ _ _ h => h) (Or.inl ⟨by rfl, ?q318h⟩) hHeld ?q318r
            case q318h => (intro wq hSw; clear hSw; go_simp; try with_reducible rfl)
            try simp only [Act.put, List.setIfInBounds_toArray, List.set_cons_zero, List.set_cons_succ]
            refine wpAnyH_take (i := 20) (oi := { dst := some 37, op := Op.pick (Operand.tmp 26) (Operand.const (Value.bool true)) (Operand.tmp 36), type := 4, pos := "locks.go:70", after := #[{ on := 9, ground := Ground.data }, { on := 19, ground := Ground.data }], guard := none }) (v := ?q319v) rfl (by kernel_rfl) (by kernel_rfl) (by kernel_rfl) (fun _ _ _ h => h) (Or.inl ⟨by rfl, ?q319h⟩) hHeld ?q319r
            case q319h => (intro wq hSw; clear hSw; go_simp; try with_reducible rfl)
            try simp only [Act.put, List.setIfInBounds_toArray, List.set_cons_zero, List.set_cons_succ]
            refine wpAnyH_done (by kernel_rfl) ?_ _
            clear hHeld
            go_wp2_with fail
            go_ret
            exact ⟨by rw [HX.out]; rfl, HBw.out _ (HS62.out).old⟩
          · have dmo : decide (x.mode ≤ mo) = false := decide_eq_false hmo
            have HMo2 : Hid (mo < x.mode) := by show _ < _; omega
            clear hNm hmo
            refine wp_region_held_drew (S := fun w' => w'.rangeAt B21 0 (grCells x) ∧ w'.rangeAt w.heap.size 0 (tbCells (.slice a t.held.length cap) (.slice (some ⟨g, off, none⟩) t.wait.length cap2)) ∧ SeenM w' (w.heap.size + 1) i ((t.wait.take i).map Gr.tx)) (by kernel_rfl) (⟨(fun j v hv => by rw [Nat.zero_add]; exact ((HS21.out).drew).at 0 rfl j hv), (HBt.out _ ((HS21.out).drew).old), HSe.out _ ((HS21.out).drew).old⟩) (fun hHeld => ?_)
            refine wpAnyH_take (i := 0) (oi := { dst := some 17, op := Op.load 29 (Operand.tmp 5), type := 29, pos := "locks.go:70", after := #[], guard := none }) rfl (by kernel_rfl) (by kernel_rfl) (by kernel_rfl) (fun _ _ _ h => h) (yieldsIf_load_mid (by rfl) 29 (.tmp 5) rfl B21 (0) rfl (grCells x) _ (fun _ h => h.1) HUG.out rfl (info_gr)) hHeld ?_
            try simp only [Act.put, List.setIfInBounds_toArray, List.set_cons_zero, List.set_cons_succ]
            refine wpAnyH_ready (rs := [1]) (by kernel_rfl) (by simp) ?_
            refine AllReadyH.cons (o := { dst := some 18, op := Op.call { callee := Callee.value (Operand.func 40), args := #[Operand.tmp 17], argTypes := #[29] }, type := 4, pos := "locks.go:70", after := #[{ on := 0, ground := Ground.data }], guard := none }) rfl (fun K hK => ?_) (AllReadyH.nil)
            go_simp
            go_wp2_with (go_at_call 40; refine (HGr.out _).mono ?_; rintro e w61 ⟨rfl, hb⟩)
            have HS61 : Hid (Hp wr [.ob B21 29 (grCells x)] w61) := ((HS21.out).drew).calls hb
            refine hK.out _ _ (⟨(fun j v hv => by rw [Nat.zero_add]; exact (HS61.out).at 0 rfl j hv), (HBt.out _ (HS61.out).old), HSe.out _ (HS61.out).old⟩) (fun hHeld => ?_)
            clear hK K hb
            try simp only [Act.put, List.setIfInBounds_toArray, List.set_cons_zero, List.set_cons_succ]
            refine wpAnyH_take (i := 2) (oi := { dst := some 19, op := Op.unOp UnOp.not 4 (Operand.tmp 18), type := 4, pos := "locks.go:70", after := #[{ on := 1, ground := Ground.data }], guard := none }) (v := .bool false) rfl (by kernel_rfl) (by kernel_rfl) (by kernel_rfl) (fun _ _ _ h => h) (Or.inl ⟨by rfl, ?q402h⟩) hHeld ?q402r
            case q402h => (intro wq hSw; clear hSw; go_simp; try with_reducible rfl)
            try simp only [Act.put, List.setIfInBounds_toArray, List.set_cons_zero, List.set_cons_succ]
            refine wpAnyH_take (i := 3) (oi := { dst := some 20, op := Op.move (Operand.tmp 19), type := 4, pos := "locks.go:70", after := #[{ on := 2, ground := Ground.data }, { on := 1, ground := Ground.chain }], guard := none }) (v := ?q403v) rfl (by kernel_rfl) (by kernel_rfl) (by kernel_rfl) (fun _ _ _ h => h) (Or.inl ⟨by rfl, ?q403h⟩) hHeld ?q403r
            case q403h => (intro wq hSw; clear hSw; go_simp; try with_reducible rfl)
            try simp only [Act.put, List.setIfInBounds_toArray, List.set_cons_zero, List.set_cons_succ]
            refine wpAnyH_take (i := 4) (oi := { dst := some 21, op := Op.move (Operand.tmp 3), type := 69, pos := "locks.go:70", after := #[{ on := 3, ground := Ground.guard }], guard := some (3, false) }) (v := ?q404v) rfl (by kernel_rfl) (by kernel_rfl) (by kernel_rfl) (fun _ _ _ h => h) (Or.inl ⟨by rfl, ?q404h⟩) hHeld ?q404r
            case q404h => (intro wq hSw; clear hSw; go_simp; try with_reducible rfl)
            try simp only [Act.put, List.setIfInBounds_toArray, List.set_cons_zero, List.set_cons_succ]
            refine wpAnyH_take (i := 5) (oi := { dst := some 22, op := Op.fieldAddr 29 (Operand.tmp 5) 0, type := 0, pos := "locks.go:70", after := #[{ on := 3, ground := Ground.guard }], guard := some (3, false) }) (v := ?q405v) rfl (by kernel_rfl) (by kernel_rfl) (by kernel_rfl) (fun _ _ _ h => h) (Or.inl ⟨by rfl, ?q405h⟩) hHeld ?q405r
            case q405h => (intro wq hSw; clear hSw; go_simp; try with_reducible rfl)
            try simp only [Act.put, List.setIfInBounds_toArray, List.set_cons_zero, List.set_cons_succ]
            refine wpAnyH_take (i := 6) (oi := { dst := some 23, op := Op.load 3 (Operand.tmp 22), type := 3, pos := "locks.go:70", after := #[{ on := 5, ground := Ground.data }, { on := 3, ground := Ground.guard }], guard := some (3, false) }) (v := .int .i64 x.tx) rfl (by kernel_rfl) (by kernel_rfl) (by kernel_rfl) (fun _ _ _ h => h) (Or.inl ⟨by rfl, ?q406h⟩) hHeld ?q406r
            case q406h => (intro wq hSw; have lq := (hSw.1) 0 (.int .i64 x.tx) rfl; simp only [Nat.zero_add] at lq; clear hSw; go_simp; try with_reducible rfl)
            try simp only [Act.put, List.setIfInBounds_toArray, List.set_cons_zero, List.set_cons_succ]
            refine wpAnyH_take (i := 7) (oi := { dst := some 24, op := Op.lookup 69 (Operand.tmp 21) (Operand.tmp 23) false, type := 4, pos := "locks.go:70", after := #[{ on := 4, ground := Ground.data }, { on := 6, ground := Ground.data }, { on := 3, ground := Ground.guard }], guard := some (3, false) }) (v := .bool false) rfl (by kernel_rfl) (by kernel_rfl) (by kernel_rfl) (fun _ _ _ h => h) (Or.inl ⟨by rfl, ?q407h⟩) hHeld ?q407r
            case q407h => (intro wq hSw; have lq := seen_look hSw.2.2 HGx.out.tx HMem.out; clear hSw; go_simp; try with_reducible rfl)
            try simp only [Act.put, List.setIfInBounds_toArray, List.set_cons_zero, List.set_cons_succ]
            refine wpAnyH_take (i := 8) (oi := { dst := some 25, op := Op.pick (Operand.tmp 20) (Operand.const (Value.bool true)) (Operand.tmp 24), type := 4, pos := "locks.go:70", after := #[{ on := 3, ground := Ground.data }, { on := 7, ground := Ground.data }], guard := none }) (v := ?q408v) rfl (by kernel_rfl) (by kernel_rfl) (by kernel_rfl) (fun _ _ _ h => h) (Or.inl ⟨by rfl, ?q408h⟩) hHeld ?q408r
            case q408h => (intro wq hSw; clear hSw; go_simp; try with_reducible rfl)
            try simp only [Act.put, List.setIfInBounds_toArray, List.set_cons_zero, List.set_cons_succ]
            refine wpAnyH_take (i := 9) (oi := { dst := some 26, op := Op.move (Operand.tmp 25), type := 4, pos := "locks.go:70", after := #[{ on := 8, ground := Ground.data }, { on := 3, ground := Ground.chain }], guard := none }) (v := ?q409v) rfl (by kernel_rfl) (by kernel_rfl) (by kernel_rfl) (fun _ _ _ h => h) (Or.inl ⟨by rfl, ?q409h⟩) hHeld ?q409r
            case q409h => (intro wq hSw; clear hSw; go_simp; try with_reducible rfl)
            try simp only [Act.put, List.setIfInBounds_toArray, List.set_cons_zero, List.set_cons_succ]
            refine wpAnyH_take (i := 10) (oi := { dst := some 27, op := Op.fieldAddr 25 (Operand.tmp 1) 0, type := 0, pos := "locks.go:70", after := #[{ on := 9, ground := Ground.guard }], guard := some (9, false) }) (v := ?q410v) rfl (by kernel_rfl) (by kernel_rfl) (by kernel_rfl) (fun _ _ _ h => h) (Or.inl ⟨by rfl, ?q410h⟩) hHeld ?q410r
            case q410h => (intro wq hSw; clear hSw; go_simp; try with_reducible rfl)
            try simp only [Act.put, List.setIfInBounds_toArray, List.set_cons_zero, List.set_cons_succ]
            refine wpAnyH_take (i := 11) (oi := { dst := some 28, op := Op.load 23 (Operand.tmp 27), type := 23, pos := "locks.go:70", after := #[{ on := 10, ground := Ground.data }, { on := 9, ground := Ground.guard }], guard := some (9, false) }) (v := .slice a t.held.length cap) rfl (by kernel_rfl) (by kernel_rfl) (by kernel_rfl) (fun _ _ _ h => h) (Or.inl ⟨by rfl, ?q411h⟩) hHeld ?q411r
            case q411h => (intro wq hSw; have lq := (hSw.2.1) 0 (.slice a t.held.length cap) rfl; simp only [Nat.zero_add] at lq; clear hSw; go_simp; try with_reducible rfl)
            try simp only [Act.put, List.setIfInBounds_toArray, List.set_cons_zero, List.set_cons_succ]
            refine wpAnyH_take (i := 12) (oi := { dst := some 29, op := Op.fieldAddr 29 (Operand.tmp 5) 0, type := 0, pos := "locks.go:70", after := #[{ on := 9, ground := Ground.guard }], guard := some (9, false) }) (v := ?q412v) rfl (by kernel_rfl) (by kernel_rfl) (by kernel_rfl) (fun _ _ _ h => h) (Or.inl ⟨by rfl, ?q412h⟩) hHeld ?q412r
            case q412h => (intro wq hSw; clear hSw; go_simp; try with_reducible rfl)
            try simp only [Act.put, List.setIfInBounds_toArray, List.set_cons_zero, List.set_cons_succ]
            refine wpAnyH_take (i := 13) (oi := { dst := some 30, op := Op.load 3 (Operand.tmp 29), type := 3, pos := "locks.go:70", after := #[{ on := 12, ground := Ground.data }, { on := 9, ground := Ground.guard }], guard := some (9, false) }) (v := .int .i64 x.tx) rfl (by kernel_rfl) (by kernel_rfl) (by kernel_rfl) (fun _ _ _ h => h) (Or.inl ⟨by rfl, ?q413h⟩) hHeld ?q413r
            case q413h => (intro wq hSw; have lq := (hSw.1) 0 (.int .i64 x.tx) rfl; simp only [Nat.zero_add] at lq; clear hSw; go_simp; try with_reducible rfl)
            try simp only [Act.put, List.setIfInBounds_toArray, List.set_cons_zero, List.set_cons_succ]
            refine wpAnyH_take (i := 14) (oi := { dst := some 31, op := Op.fieldAddr 29 (Operand.tmp 5) 1, type := 0, pos := "locks.go:70", after := #[{ on := 9, ground := Ground.guard }], guard := some (9, false) }) (v := ?q414v) rfl (by kernel_rfl) (by kernel_rfl) (by kernel_rfl) (fun _ _ _ h => h) (Or.inl ⟨by rfl, ?q414h⟩) hHeld ?q414r
            case q414h => (intro wq hSw; clear hSw; go_simp; try with_reducible rfl)
            try simp only [Act.put, List.setIfInBounds_toArray, List.set_cons_zero, List.set_cons_succ]
            refine wpAnyH_take (i := 15) (oi := { dst := some 32, op := Op.load 27 (Operand.tmp 31), type := 27, pos := "locks.go:70", after := #[{ on := 14, ground := Ground.data }, { on := 9, ground := Ground.guard }], guard := some (9, false) }) rfl (by kernel_rfl) (by kernel_rfl) (by kernel_rfl) (fun _ _ _ h => h) (yieldsIf_load_mid (by rfl) 27 (.tmp 31) rfl B21 (1) rfl (lkCells x.lock) _ (fun _ h => range_part (h.1) (mid_lk x)) HUK.out rfl (info_lk)) hHeld ?_
            try simp only [Act.put, List.setIfInBounds_toArray, List.set_cons_zero, List.set_cons_succ]
            refine wpAnyH_take (i := 17) (oi := { dst := some 34, op := Op.fieldAddr 29 (Operand.tmp 5) 2, type := 0, pos := "locks.go:70", after := #[{ on := 9, ground := Ground.guard }], guard := some (9, false) }) (v := ?q416v) rfl (by kernel_rfl) (by kernel_rfl) (by kernel_rfl) (fun _ _ _ h => h) (Or.inl ⟨by rfl, ?q416h⟩) hHeld ?q416r
            case q416h => (intro wq hSw; clear hSw; go_simp; try with_reducible rfl)
            try simp only [Act.put, List.setIfInBounds_toArray, List.set_cons_zero, List.set_cons_succ]
            refine wpAnyH_take (i := 18) (oi := { dst := some 35, op := Op.load 3 (Operand.tmp 34), type := 3, pos := "locks.go:70", after := #[{ on := 17, ground := Ground.data }, { on := 9, ground := Ground.guard }], guard := some (9, false) }) (v := .int .i64 x.mode) rfl (by kernel_rfl) (by kernel_rfl) (by kernel_rfl) (fun _ _ _ h => h) (Or.inl ⟨by rfl, ?q417h⟩) hHeld ?q417r
            case q417h => (intro wq hSw; have lq := (hSw.1) 3 (.int .i64 x.mode) rfl; simp only [Nat.zero_add] at lq; clear hSw; go_simp; try with_reducible rfl)
            try simp only [Act.put, List.setIfInBounds_toArray, List.set_cons_zero, List.set_cons_succ]
            refine wpAnyH_ready (rs := [16]) (by kernel_rfl) (by simp) ?_
            refine AllReadyH.cons (o := { dst := some 33, op := Op.call { callee := Callee.value (Operand.func 41), args := #[Operand.tmp 28, Operand.tmp 30, Operand.tmp 32], argTypes := #[23, 3, 27] }, type := 3, pos := "locks.go:70", after := #[{ on := 11, ground := Ground.data }, { on := 13, ground := Ground.data }, { on := 15, ground := Ground.data }, { on := 9, ground := Ground.chain }, { on := 9, ground := Ground.guard }], guard := some (9, false) }) rfl (fun K hK => ?_) (AllReadyH.nil)
            go_simp
            go_wp2_with (go_at_call 41; refine (HMx.out _ (HBw.out _ (HS61.out).old)).mono ?_; rintro e w62 ⟨rfl, hb⟩)
            have HS62 : Hid (Hp wr [.ob B21 29 (grCells x)] w62) := (HS61.out).calls hb
            refine hK.out _ _ (⟨(fun j v hv => by rw [Nat.zero_add]; exact (HS62.out).at 0 rfl j hv), (HBt.out _ (HS62.out).old), HSe.out _ (HS62.out).old⟩) (fun hHeld => ?_)
            clear hK K hb
            try simp only [Act.put, List.setIfInBounds_toArray, List.set_cons_zero, List.set_cons_succ]
            refine wpAnyH_take (i := 19) (oi := { dst := some 36, op := Op.binOp BinOp.geq 3 (Operand.tmp 33) (Operand.tmp 35) 3, type := 4, pos := "locks.go:70", after := #[{ on := 16, ground := Ground.data }, { on := 18, ground := Ground.data }, { on := 9, ground := Ground.guard }], guard := some (9, false) }) (v := .bool false) rfl (by kernel_rfl) (by kernel_rfl) (by kernel_rfl) (fun _ _ _ h => h) (Or.inl ⟨by rfl, ?q418h⟩) hHeld ?q418r
            case q418h => (intro wq hSw; clear hSw; go_simp; try with_reducible rfl)
            try simp only [Act.put, List.setIfInBounds_toArray, List.set_cons_zero, List.set_cons_succ]
            refine wpAnyH_take (i := 20) (oi := { dst := some 37, op := Op.pick (Operand.tmp 26) (Operand.const (Value.bool true)) (Operand.tmp 36), type := 4, pos := "locks.go:70", after := #[{ on := 9, ground := Ground.data }, { on := 19, ground := Ground.data }], guard := none }) (v := ?q419v) rfl (by kernel_rfl) (by kernel_rfl) (by kernel_rfl) (fun _ _ _ h => h) (Or.inl ⟨by rfl, ?q419h⟩) hHeld ?q419r
            case q419h => (intro wq hSw; clear hSw; go_simp; try with_reducible rfl)
            try simp only [Act.put, List.setIfInBounds_toArray, List.set_cons_zero, List.set_cons_succ]
            refine wpAnyH_done (by kernel_rfl) ?_ _
            clear hHeld
            have xt : w62.cell? ⟨B21, 0, none⟩ = some (.int .i64 x.tx) := HS62.out.at 0 rfl 0 rfl
            have HSn := Lib.hid (HSe.out _ HS62.out.old)
            go_wp2_with (first | ((with_reducible refine wpList_store_seen (.tmp 38) (.tmp 40) HSn.out HIm.out HGx.out.tx ?_ ?_ ?_); (exact rfl); (exact rfl)))
            intro w90 hsn hgn
            have HF := Lib.hid (HQ.out.next HXi.out HS62.out.old hsn hgn)
            clear hsn hgn xt
            go_wp2_with fail
            go_roundw
            case rel => exact ⟨i + 1, HLt.out, by go_num, by rw [lk_take_snoc HXi.out]; exact wait_snoc HH.out HOk1.out (by rw [HMe.out]; exact HMo2.out) (fun y hy e => HM1.out (List.mem_map.2 ⟨y, hy, e⟩)), HF.out⟩
            case measure => simp [intOf]; try (have := HLt.out; omega)
    · obtain rfl : i = t.wait.length := by omega
      have HX := Lib.hid (HYes.out (by have := HH.out; rwa [List.take_length] at this))
      clear hlt hi HH
      go_wp2_with fail
      go_ret
      exact ⟨by rw [HX.out]; rfl, HQ.out.old⟩
end Go.Proofs.Ytcnaalbpbalgdaa
/- the program's Valid, Mode, Waiting (locks) -/
namespace Go.Proofs.Ytcnaalbpbalgdaa
open Go.RowKit
set_option maxRecDepth 20000
set_option linter.unusedSimpArgs false
set_option linter.unusedVariables false

theorem ok_parts (t : Tb) : tbOkB t = (decide (t.held.length + t.wait.length ≤ 1024) && (heldB t.held && waitB t.held t.wait)) := by
  rw [Bool.eq_iff_iff, tbOkB_iff, Bool.and_eq_true, Bool.and_eq_true, decide_eq_true_eq, heldB_iff, waitB_iff]
  exact ⟨fun h => ⟨h.few, h.tin.held, h.tin.wait⟩, fun h => ⟨h.1, ⟨h.2.1, h.2.2⟩⟩⟩
set_option maxHeartbeats 4000000 in
theorem plkvalid_any {h v : Value} {t : Tb} {R : List Rng} (w : World) (ht : TbRd h v t R) (hR : RdIn w R) (hg : GoodTb t) :
    Calls Try.prog 12 #[.agg (tbCells h v).toArray] w fun e w' => e = .returned (.bool (tbOkB t)) ∧ Below w.heap.size w w' := by
  obtain ⟨a, cap, rfl, hnc, hcm⟩ := ht.1.shape
  obtain ⟨a2, cap2, rfl, hnc2, hcm2⟩ := ht.2.shape
  have HSz : Hid (∀ W, Calls Try.prog 32 #[.agg (tbCells (.slice a t.held.length cap) (.slice a2 t.wait.length cap2)).toArray] W fun e w' => e = .returned (.int .i64 ((t.held.length : Int) + (t.wait.length : Int))) ∧ Below W.heap.size W w') := fun W => size_any W ht hg
  have HHd : Hid (∀ W, Below w.heap.size w W → Calls Try.prog 33 #[.slice a t.held.length cap] W fun e w' => e = .returned (.bool (heldB t.held)) ∧ Below W.heap.size W w') := fun W hb => validHeld_any t.held _ R W ht.1 (hR.below hb) hg.held hg.few.1
  have HWt : Hid (heldB t.held = true → ∀ W, Below w.heap.size w W → Calls Try.prog 34 #[.agg (tbCells (.slice a t.held.length cap) (.slice a2 t.wait.length cap2)).toArray] W fun e w' => e = .returned (.bool (waitB t.held t.wait)) ∧ Below W.heap.size W w') := fun hh W hb => validWaiting_any W ht (hR.below hb) hg (heldB_iff.1 hh)
  have HV := Lib.hid (ok_parts t)
  clear ht hR hg
  obtain ⟨fs, hu⟩ := under_tb
  have HUT := Lib.hid hu
  clear hu
  have h1 := (Hp.start w).put 25 (tbCells (.slice a t.held.length cap) (.slice a2 t.wait.length cap2))
  have HS0 : Hid (Hp w [.ob w.heap.size 25 (tbCells (.slice a t.held.length cap) (.slice a2 t.wait.length cap2))] (w.alloc (.cells (tbCells (.slice a t.held.length cap) (.slice a2 t.wait.length cap2)).toArray 25))) := h1
  clear h1
  obtain ⟨ok, hok⟩ : ∃ ok, tbOkB t = ok := ⟨_, rfl⟩
  rw [hok] at HV ⊢
  clear hok
  generalize heldB t.held = hd at *
  generalize waitB t.held t.wait = wt at *
  go_enter Try.func12, Try.ntmps12
  go_upto_region 1 with (fail)
  generalize (w.alloc (.cells (tbCells (.slice a t.held.length cap) (.slice a2 t.wait.length cap2)).toArray 25)) = w1 at *
  go_wp2_with (first | ((with_reducible refine wpList_load_ob 25 (.tmp 1) w.heap.size (tbCells (.slice a t.held.length cap) (.slice a2 t.wait.length cap2)) 25 HUT.out ?_ ?_ ?_ ?_ ?_); (exact rfl); (exact HS0.out.get 0 rfl); (exact rfl); (exact info_tb); simp only [Act.put, List.setIfInBounds_toArray, List.set_cons_zero, List.set_cons_succ]) | ((with_reducible refine wpList_load_ob_w 25 (.tmp 1) w.heap.size (tbCells (.slice a t.held.length cap) (.slice a2 t.wait.length cap2)) 25 HUT.out ?_ ?_ ?_ ?_ ?_ ?_); (exact rfl); (exact rfl); (exact HS0.out.get 0 rfl); (exact rfl); (exact info_tb); simp only [Act.put, List.setIfInBounds_toArray, List.set_cons_zero, List.set_cons_succ]))
  refine (HSz.out _).mono ?_
  rintro e w2 ⟨rfl, hb⟩
  have HS1 := Lib.hid (HS0.out.calls hb)
  clear HS0 hb HSz
  by_cases hle : t.held.length + t.wait.length ≤ 1024
  · have hle' : ((t.held.length : Int) + (t.wait.length : Int)) ≤ 1024 := by omega
    have HV2 : Hid (ok = (hd && wt)) := Lib.hid (by rw [HV.out, decide_eq_true hle]; rfl)
    clear hle HV
    have b0 : w2.cell? ⟨w.heap.size, 0, none⟩ = some (.slice a t.held.length cap) := HS1.out.at 0 rfl 0 rfl
    have b1 : w2.cell? ⟨w.heap.size, 1, none⟩ = some (.slice a2 t.wait.length cap2) := HS1.out.at 0 rfl 1 rfl
    go_wp2_with fail
    refine (HHd.out _ HS1.out.old).mono ?_
    rintro e w3 ⟨rfl, hb⟩
    have HS2 := Lib.hid (HS1.out.calls hb)
    clear b0 b1 HS1 hb HHd
    cases hd
    · have HX : Hid (ok = false) := Lib.hid (by rw [HV2.out]; rfl)
      go_wp2_with fail
      go_ret
      exact ⟨by rw [HX.out]; rfl, HS2.out.old⟩
    · have HX : Hid (ok = wt) := Lib.hid (by rw [HV2.out]; rfl)
      have HWu := Lib.hid (HWt.out rfl)
      clear HWt HV2
      go_wp2_with (first | ((with_reducible refine wpList_load_ob 25 (.tmp 1) w.heap.size (tbCells (.slice a t.held.length cap) (.slice a2 t.wait.length cap2)) 25 HUT.out ?_ ?_ ?_ ?_ ?_); (exact rfl); (exact HS2.out.get 0 rfl); (exact rfl); (exact info_tb); simp only [Act.put, List.setIfInBounds_toArray, List.set_cons_zero, List.set_cons_succ]) | ((with_reducible refine wpList_load_ob_w 25 (.tmp 1) w.heap.size (tbCells (.slice a t.held.length cap) (.slice a2 t.wait.length cap2)) 25 HUT.out ?_ ?_ ?_ ?_ ?_ ?_); (exact rfl); (exact rfl); (exact HS2.out.get 0 rfl); (exact rfl); (exact info_tb); simp only [Act.put, List.setIfInBounds_toArray, List.set_cons_zero, List.set_cons_succ]))
      refine (HWu.out _ HS2.out.old).mono ?_
      rintro e w4 ⟨rfl, hb⟩
      have HS3 := Lib.hid (HS2.out.calls hb)
      clear HS2 hb HWu
      go_wp2_with fail
      go_ret
      exact ⟨by rw [HX.out]; rfl, HS3.out.old⟩
  · have hle' : ¬ ((t.held.length : Int) + (t.wait.length : Int)) ≤ 1024 := by omega
    have HX : Hid (ok = false) := Lib.hid (by rw [HV.out, decide_eq_false hle]; rfl)
    clear hle HV
    go_wp2_with fail
    go_ret
    exact ⟨by rw [HX.out]; rfl, HS1.out.old⟩
set_option maxHeartbeats 4000000 in
theorem pMode_any {h v : Value} {t : Tb} {R : List Rng} (tx : Int) (k : Lok) (w : World) (ht : TbRd h v t R) (hR : RdIn w R) (hg : GoodTb t) (hk : GoodLk k) :
    Calls Try.prog 20 #[.agg (tbCells h v).toArray, .int .i64 tx, .agg (lkCells k).toArray] w fun e w' => e = .returned (.int .i64 (modeT t tx k.page k.slot)) ∧ Below w.heap.size w w' := by
  obtain ⟨a, cap, rfl, hnc, hcm⟩ := ht.1.shape
  obtain ⟨a2, cap2, rfl, hnc2, hcm2⟩ := ht.2.shape
  have HVa : Hid (∀ W, Below w.heap.size w W → Calls Try.prog 12 #[.agg (tbCells (.slice a t.held.length cap) (.slice a2 t.wait.length cap2)).toArray] W fun e w' => e = .returned (.bool (tbOkB t)) ∧ Below W.heap.size W w') := fun W hb => plkvalid_any W ht (hR.below hb) hg
  have HMo : Hid (tbOkB t = true → ∀ W, Below w.heap.size w W → Calls Try.prog 41 #[.slice a t.held.length cap, .int .i64 tx, .agg #[.int .i64 k.page, .int .i64 k.slot]] W fun e w' => e = .returned (.int .i64 (modeR t.held tx k.page k.slot)) ∧ Below W.heap.size W w') := fun hh W hb => pmode_any tx k t.held _ R W (tbOkB_iff.1 hh).tin.held.up ht.1 (hR.below hb) (by have := hg.few; omega)
  have HV : Hid (modeT t tx k.page k.slot = if tbOkB t = true then modeR t.held tx k.page k.slot else 0) := rfl
  clear ht hR hg hk
  obtain ⟨fs, hu⟩ := under_tb
  have HUT := Lib.hid hu
  clear hu
  have h1 := ((Hp.start w).put 25 (tbCells (.slice a t.held.length cap) (.slice a2 t.wait.length cap2))).put 27 (lkCells k)
  simp only [World.size_alloc, List.nil_append, List.cons_append] at h1
  have HS0 : Hid (Hp w [.ob w.heap.size 25 (tbCells (.slice a t.held.length cap) (.slice a2 t.wait.length cap2)), .ob (w.heap.size + 1) 27 (lkCells k)] ((w.alloc (.cells (tbCells (.slice a t.held.length cap) (.slice a2 t.wait.length cap2)).toArray 25)).alloc (.cells (lkCells k).toArray 27))) := h1
  clear h1
  generalize tbOkB t = ok at *
  go_enter Try.func20, Try.ntmps20
  go_upto_region 1 with (fail)
  generalize ((w.alloc (.cells (tbCells (.slice a t.held.length cap) (.slice a2 t.wait.length cap2)).toArray 25)).alloc (.cells (lkCells k).toArray 27)) = w1 at *
  generalize w.heap.size + 1 = b2 at *
  go_wp2_with (first | ((with_reducible refine wpList_load_ob 25 (.tmp 3) w.heap.size (tbCells (.slice a t.held.length cap) (.slice a2 t.wait.length cap2)) 25 HUT.out ?_ ?_ ?_ ?_ ?_); (exact rfl); (exact HS0.out.get 0 rfl); (exact rfl); (exact info_tb); simp only [Act.put, List.setIfInBounds_toArray, List.set_cons_zero, List.set_cons_succ]) | ((with_reducible refine wpList_load_ob_w 25 (.tmp 3) w.heap.size (tbCells (.slice a t.held.length cap) (.slice a2 t.wait.length cap2)) 25 HUT.out ?_ ?_ ?_ ?_ ?_ ?_); (exact rfl); (exact rfl); (exact HS0.out.get 0 rfl); (exact rfl); (exact info_tb); simp only [Act.put, List.setIfInBounds_toArray, List.set_cons_zero, List.set_cons_succ]))
  refine (HVa.out _ HS0.out.old).mono ?_
  rintro e w2 ⟨rfl, hb⟩
  have HS1 := Lib.hid (HS0.out.calls hb)
  clear HS0 hb HVa
  cases ok
  · go_wp2_with fail
    go_ret
    exact ⟨by rw [HV.out]; rfl, HS1.out.old⟩
  · have HMp := Lib.hid (HMo.out rfl)
    clear HMo
    have b0 : w2.cell? ⟨w.heap.size, 0, none⟩ = some (.slice a t.held.length cap) := HS1.out.at 0 rfl 0 rfl
    have b1 : w2.cell? ⟨w.heap.size, 1, none⟩ = some (.slice a2 t.wait.length cap2) := HS1.out.at 0 rfl 1 rfl
    have k0 : w2.cell? ⟨b2, 0, none⟩ = some (.int .i64 k.page) := HS1.out.at 1 rfl 0 rfl
    have k1 : w2.cell? ⟨b2, 1, none⟩ = some (.int .i64 k.slot) := HS1.out.at 1 rfl 1 rfl
    go_wp2_with fail
    refine (HMp.out _ HS1.out.old).mono ?_
    rintro e w3 ⟨rfl, hb⟩
    have HS2 := Lib.hid (HS1.out.calls hb)
    clear b0 b1 k0 k1 HS1 hb
    go_wp2_with fail
    go_ret
    exact ⟨by rw [HV.out]; rfl, HS2.out.old⟩
end Go.Proofs.Ytcnaalbpbalgdaa
/- what the program makes to find grants; what a transaction waits for; where a request goes (locks) -/
namespace Go.Proofs.Ytcnaalbpbalgdaa
open Go.RowKit
set_option maxRecDepth 20000
set_option linter.unusedSimpArgs false
set_option linter.unusedVariables false

def FnPost (g : Nat) (cs : List Value) (w : World) (e : Ending) (w' : World) : Prop :=
  ∃ b, e = .returned (.func (.func g) #[] #[.pointer (some ⟨b, 0, none⟩)]) ∧ RdIn w' [(b, 0, cs)] ∧ w.heap.size ≤ b ∧ Below w.heap.size w w'
theorem rd_new {w : World} {t : TypeId} {cs : List Value} : RdIn (w.alloc (.cells cs.toArray t)) [(w.heap.size, 0, cs)] := fun r hr => by
  obtain rfl := List.mem_singleton.1 hr
  refine ⟨by simp, fun j u hu => ?_⟩
  rw [cell_of_row _ _ _ _ _ _ (heap_alloc_last w _), List.getElem?_toArray, Nat.zero_add]
  exact hu
theorem of_any (tx : Int) (w : World) : Calls Try.prog 52 #[.int .i64 tx] w (FnPost 68 [.int .i64 tx] w) := by
  have HE : Hid (FnPost 68 [.int .i64 tx] w (.returned (.func (.func 68) #[] #[.pointer (some ⟨w.heap.size, 0, none⟩)])) (w.alloc (.cells [Value.int .i64 tx].toArray 3))) := ⟨_, rfl, rd_new, Nat.le_refl _, (Below.refl _ _).alloc (Nat.le_refl _) _⟩
  go_enter Try.func52, Try.ntmps52
  go_wp2
  go_ret
  exact HE.out
theorem against_any (g : Gr) (w : World) : Calls Try.prog 63 #[.agg (grCells g).toArray] w (FnPost 73 (grCells g) w) := by
  have HE : Hid (FnPost 73 (grCells g) w (.returned (.func (.func 73) #[] #[.pointer (some ⟨w.heap.size, 0, none⟩)])) (w.alloc (.cells (grCells g).toArray 29))) := ⟨_, rfl, rd_new, Nat.le_refl _, (Below.refl _ _).alloc (Nat.le_refl _) _⟩
  go_enter Try.func63, Try.ntmps63
  go_wp2
  go_ret
  exact HE.out
end Go.Proofs.Ytcnaalbpbalgdaa
/- the program's waiting and Waiting (locks) -/
namespace Go.Proofs.Ytcnaalbpbalgdaa
open Go.RowKit
set_option maxRecDepth 20000
set_option linter.unusedSimpArgs false
set_option linter.unusedVariables false

theorem idxR_neg {α : Type} {p : α → Bool} {l : List α} (h : idxR p l = -1) : l.all (fun x => !p x) = true := by
  unfold idxR at h
  cases hf : l.findIdx? p with
  | none =>
    rw [List.findIdx?_eq_none_iff] at hf
    exact List.all_eq_true.2 (fun x hx => by simpa using hf x hx)
  | some i => rw [hf] at h; simp at h
theorem idxR_pos {α : Type} {p : α → Bool} {l : List α} (h : ¬ idxR p l = -1) : ∃ k, ∃ hk : k < l.length, idxR p l = (k : Int) ∧ (l.take k).all (fun x => !p x) = true ∧ p l[k] = true := by
  unfold idxR at h ⊢
  cases hf : l.findIdx? p with
  | none => rw [hf] at h; exact absurd rfl h
  | some i =>
    have hf' := List.findIdx?_eq_some_iff_getElem.1 hf
    obtain ⟨hi, hx, hb⟩ := hf'
    refine ⟨i, hi, rfl, List.all_eq_true.2 (fun x hx => ?_), hx⟩
    obtain ⟨j, hj, rfl⟩ := List.mem_take_iff_getElem.1 hx
    simpa using hb j (by omega)
theorem wfind_idx (l : List Gr) (tx : Int) : (idxR (fun x : Gr => decide (x.tx = tx)) l = -1 ∧ wfind l tx = none) ∨ ∃ (k : Nat) (x : Gr), k < l.length ∧ l[k]? = some x ∧ idxR (fun x : Gr => decide (x.tx = tx)) l = (k : Int) ∧ wfind l tx = some x := by
  by_cases h : idxR (fun x : Gr => decide (x.tx = tx)) l = -1
  · refine .inl ⟨h, wfind_none_of (fun x hx => ?_)⟩
    have := List.all_eq_true.1 (idxR_neg h) x hx
    simpa using this
  · obtain ⟨k, hk, e, ha, hx⟩ := idxR_pos h
    refine .inr ⟨k, l[k], hk, List.getElem?_eq_getElem hk, e, wfind_first (fun q hq z hz => ?_) (List.getElem?_eq_getElem hk) (by simpa using hx)⟩
    have hm : z ∈ l.take k := by
      obtain ⟨h1, rfl⟩ := List.getElem?_eq_some_iff.1 hz
      exact List.mem_take_iff_getElem.2 ⟨q, by omega, rfl⟩
    have := List.all_eq_true.1 ha z hm
    simpa using this
set_option maxHeartbeats 8000000 in
theorem pwaiting_any {h v : Value} {t : Tb} {R : List Rng} (tx : Int) (w : World) (ht : TbRd h v t R) (hR : RdIn w R) (hg : GoodTb t) :
    Calls Try.prog 39 #[.agg (tbCells h v).toArray, .int .i64 tx] w fun e w' => e = .returned (.tuple #[.agg (grCells ((wfind t.wait tx).getD grNil)).toArray, .bool (wfind t.wait tx).isSome]) ∧ Below w.heap.size w w' := by
  obtain ⟨a, cap, rfl, hnc, hcm⟩ := ht.1.shape
  obtain ⟨a2, cap2, rfl, hnc2, hcm2⟩ := ht.2.shape
  obtain ⟨_, _, e2, _, _, hg0⟩ := SlRd.open ht.2 hR
  cases e2
  have HIx : Hid (∀ b W, Below w.heap.size w W → RdIn W [(b, 0, [.int .i64 tx])] → Calls Try.prog 55 #[.slice a2 t.wait.length cap2, .func (.func 68) #[] #[.pointer (some ⟨b, 0, none⟩)]] W fun e w' => e = .returned (.int .i64 (idxR (fun x : Gr => decide (x.tx = tx)) t.wait)) ∧ Below W.heap.size W w') := fun b W hb hr => idxGr_any _ _ _ t.wait _ R W eg_of ((of_at tx b t.wait).fn hr) ht.2 (hR.below hb) (by have := hg.few; omega)
  have HNw : Hid ((t.wait.length : Int) ≤ 100000) := Lib.hid (by have := hg.few; omega)
  have HWf := Lib.hid (wfind_idx t.wait tx)
  have h1 := (((Hp.start w).put 25 (tbCells (.slice a t.held.length cap) (.slice a2 t.wait.length cap2))).put 29 (grCells grNil))
  simp only [World.size_alloc, List.nil_append, List.cons_append] at h1
  have HS0 : Hid (Hp w [.ob w.heap.size 25 (tbCells (.slice a t.held.length cap) (.slice a2 t.wait.length cap2)), .ob (w.heap.size + 1) 29 (grCells grNil)] ((w.alloc (.cells (tbCells (.slice a t.held.length cap) (.slice a2 t.wait.length cap2)).toArray 25)).alloc (.cells #[.int .i64 0, .int .i64 0, .int .i64 0, .int .i64 0] 29))) := h1
  clear h1 ht hR hg hnc hcm hnc2 hcm2
  obtain ⟨fsHUG, huHUG⟩ := under_gr
  have HUG := Lib.hid huHUG
  clear huHUG
  obtain ⟨fsHUT, huHUT⟩ := under_tb
  have HUT := Lib.hid huHUT
  clear huHUT
  generalize idxR (fun x : Gr => decide (x.tx = tx)) t.wait = ix at *
  obtain ⟨wf, hwf⟩ : ∃ wf, wfind t.wait tx = wf := ⟨_, rfl⟩
  rw [hwf] at HWf ⊢
  clear hwf
  go_enter Try.func39, Try.ntmps39
  go_upto_region 1 with (fail)
  generalize ((w.alloc (.cells (tbCells (.slice a t.held.length cap) (.slice a2 t.wait.length cap2)).toArray 25)).alloc (.cells #[.int .i64 0, .int .i64 0, .int .i64 0, .int .i64 0] 29)) = w1 at *
  generalize w.heap.size + 1 = b3 at *
  refine wp_region_held_drew (S := fun w' => w'.rangeAt w.heap.size 0 (tbCells (.slice a t.held.length cap) (.slice a2 t.wait.length cap2))) (by kernel_rfl) ((fun j v hv => by rw [Nat.zero_add]; exact ((HS0.out).drew).at 0 rfl j hv)) (fun hHeld => ?_)
  refine wpAnyH_take (i := 0) (oi := { dst := some 7, op := Op.fieldAddr 25 (Operand.tmp 2) 1, type := 0, pos := "locks.go:96", after := #[], guard := none }) (v := ?q1v) rfl (by kernel_rfl) (by kernel_rfl) (by kernel_rfl) (fun _ _ _ h => h) (Or.inl ⟨by rfl, ?q1h⟩) hHeld ?q1r
  case q1h => (intro wq hSw; clear hSw; go_simp; try with_reducible rfl)
  try simp only [Act.put, List.setIfInBounds_toArray, List.set_cons_zero, List.set_cons_succ]
  refine wpAnyH_take (i := 1) (oi := { dst := some 8, op := Op.load 23 (Operand.tmp 7), type := 23, pos := "locks.go:96", after := #[{ on := 0, ground := Ground.data }], guard := none }) (v := .slice a2 t.wait.length cap2) rfl (by kernel_rfl) (by kernel_rfl) (by kernel_rfl) (fun _ _ _ h => h) (Or.inl ⟨by rfl, ?q2h⟩) hHeld ?q2r
  case q2h => (intro wq hSw; have lq := (hSw) 1 (.slice a2 t.wait.length cap2) rfl; simp only [Nat.zero_add] at lq; clear hSw; go_simp; try with_reducible rfl)
  try simp only [Act.put, List.setIfInBounds_toArray, List.set_cons_zero, List.set_cons_succ]
  refine wpAnyH_take (i := 2) (oi := { dst := some 9, op := Op.move (Operand.tmp 1), type := 3, pos := "locks.go:96", after := #[], guard := none }) (v := ?q3v) rfl (by kernel_rfl) (by kernel_rfl) (by kernel_rfl) (fun _ _ _ h => h) (Or.inl ⟨by rfl, ?q3h⟩) hHeld ?q3r
  case q3h => (intro wq hSw; clear hSw; go_simp; try with_reducible rfl)
  try simp only [Act.put, List.setIfInBounds_toArray, List.set_cons_zero, List.set_cons_succ]
  refine wpAnyH_ready (rs := [3]) (by kernel_rfl) (by simp) ?_
  refine AllReadyH.cons (o := { dst := some 10, op := Op.call { callee := Callee.value (Operand.func 52), args := #[Operand.tmp 9], argTypes := #[3] }, type := 58, pos := "locks.go:96", after := #[{ on := 2, ground := Ground.data }], guard := none }) rfl (fun K hK => ?_) (AllReadyH.nil)
  go_simp
  go_wp2_with (go_at_call 52; refine (of_any tx _).mono ?_; rintro e w21 ⟨bf, rfl, hin, hnw, hb⟩)
  have HS21 : Hid (Hp w [.ob (w.heap.size) 25 (tbCells (.slice a t.held.length cap) (.slice a2 t.wait.length cap2)), .ob b3 29 (grCells grNil), .rd [(bf, 0, [.int .i64 tx])]] w21) := ((HS0.out).drew).addrd hb [(bf, 0, [.int .i64 tx])] hin (fun r hr => .inl (by obtain rfl := List.mem_singleton.1 hr; exact hnw))
  refine hK.out _ _ ((fun j v hv => by rw [Nat.zero_add]; exact (HS21.out).at 0 rfl j hv)) (fun hHeld => ?_)
  clear hK K hb hin hnw
  try simp only [Act.put, List.setIfInBounds_toArray, List.set_cons_zero, List.set_cons_succ]
  refine wpAnyH_ready (rs := [4]) (by kernel_rfl) (by simp) ?_
  refine AllReadyH.cons (o := { dst := some 11, op := Op.call { callee := Callee.value (Operand.func 55), args := #[Operand.tmp 8, Operand.tmp 10], argTypes := #[23, 58] }, type := 3, pos := "locks.go:96", after := #[{ on := 1, ground := Ground.data }, { on := 3, ground := Ground.data }, { on := 3, ground := Ground.chain }], guard := none }) rfl (fun K hK => ?_) (AllReadyH.nil)
  go_simp
  go_wp2_with (go_at_call 55; refine (HIx.out _ _ (HS21.out).old ((HS21.out).reads 2 rfl)).mono ?_; rintro e w22 ⟨rfl, hb⟩)
  have HS22 : Hid (Hp w [.ob (w.heap.size) 25 (tbCells (.slice a t.held.length cap) (.slice a2 t.wait.length cap2)), .ob b3 29 (grCells grNil), .rd [(bf, 0, [.int .i64 tx])]] w22) := (HS21.out).calls hb
  refine hK.out _ _ ((fun j v hv => by rw [Nat.zero_add]; exact (HS22.out).at 0 rfl j hv)) (fun hHeld => ?_)
  clear hK K hb
  try simp only [Act.put, List.setIfInBounds_toArray, List.set_cons_zero, List.set_cons_succ]
  refine wpAnyH_take (i := 5) (oi := { dst := some 6, op := Op.assign (Operand.tmp 11), type := 3, pos := "locks.go:96", after := #[{ on := 4, ground := Ground.data }, { on := 4, ground := Ground.chain }, { on := 0, ground := Ground.phase }, { on := 1, ground := Ground.phase }, { on := 2, ground := Ground.phase }, { on := 3, ground := Ground.phase }, { on := 4, ground := Ground.phase }], guard := none }) (v := ?q4v) rfl (by kernel_rfl) (by kernel_rfl) (by kernel_rfl) (fun _ _ _ h => h) (Or.inl ⟨by rfl, ?q4h⟩) hHeld ?q4r
  case q4h => (intro wq hSw; clear hSw; go_simp; try with_reducible rfl)
  try simp only [Act.put, List.setIfInBounds_toArray, List.set_cons_zero, List.set_cons_succ]
  refine wpAnyH_done (by kernel_rfl) ?_ _
  clear hHeld HIx
  have HS23 : Hid (Hp w [.ob (w.heap.size) 25 (tbCells (.slice a t.held.length cap) (.slice a2 t.wait.length cap2)), .ob b3 29 (grCells grNil)] w22) := HS22.out.pull [0, 1] rfl (pull_nd HS22.out.nd [0, 1] rfl (by decide))
  clear HS22
  rcases HWf.out with ⟨hix, hwf⟩ | ⟨k, x, hk, hx, hix, hwf⟩
  · subst hix
    subst hwf
    clear HWf
    go_wp2_with (first | ((with_reducible refine wpList_build_v (d := some 19) 29 (.agg (grCells grNil).toArray) ?_ ?_); (intro W; simp only [List.map_toArray, List.map_cons, List.map_nil]; exact build_gr0 W); simp only [Act.put, List.setIfInBounds_toArray, List.set_cons_zero, List.set_cons_succ]) | ((with_reducible refine wpList_store_ob 29 (.tmp 4) b3 (grCells grNil) (grCells grNil) 29 ?_ ?_ ?_ ?_ ?_ ?_ ?_); (exact rfl); (exact rfl); (exact (HS23.out).get 1 rfl); (exact info_gr); (exact rfl); (exact (oneCell_gr _)); skip))
    have HS24 : Hid (Hp w [.ob (w.heap.size) 25 (tbCells (.slice a t.held.length cap) (.slice a2 t.wait.length cap2)), .ob b3 29 (grCells grNil)] (w22.setRow b3 (grCells grNil).toArray)) := (HS23.out).row 1 rfl (grCells grNil)
    clear HS23
    generalize (w22.setRow b3 (grCells grNil).toArray) = w23 at *
    refine bodyPost_ret (results_ob_tmp Try.results39 _ _ b3 (grCells grNil) 29 _ rfl ((HS24.out).get 1 rfl) HUG.out rfl info_gr) rfl ?_
    exact ⟨rfl, (HS24.out).old⟩
  · obtain ⟨g, off, rfl, hr⟩ := hg0.out (by omega)
    have HRg := Lib.hid hr
    have HXi := Lib.hid hx
    have hk0 : (0 : Int) ≤ (k : Int) := by omega
    have hki : (k : Int) < (t.wait.length : Int) := by omega
    subst hix
    subst hwf
    have b1 : w22.cell? ⟨w.heap.size, 1, none⟩ = some (.slice (some ⟨g, off, none⟩) t.wait.length cap2) := (HS23.out).at 0 rfl 1 rfl
    clear hr hx hk hg0 HWf
    go_wp2_with (first | ((with_reducible refine wpList_load_at 29 (.tmp 17) g ((off + k * 4)) (grCells x) HUG.out ?_ ?_ ?_ ?_ ?_); (exact rfl); (exact (elem_rng (HRg.out _ (HS23.out).old) HXi.out)); (exact rfl); (exact info_gr); simp only [Act.put, List.setIfInBounds_toArray, List.set_cons_zero, List.set_cons_succ]) | ((with_reducible refine wpList_store_ob 29 (.tmp 4) b3 (grCells x) (grCells grNil) 29 ?_ ?_ ?_ ?_ ?_ ?_ ?_); (exact rfl); (exact rfl); (exact (HS23.out).get 1 rfl); (exact info_gr); (exact rfl); (exact (oneCell_gr _)); skip))
    have HS64 : Hid (Hp w [.ob (w.heap.size) 25 (tbCells (.slice a t.held.length cap) (.slice (some ⟨g, off, none⟩) t.wait.length cap2)), .ob b3 29 (grCells x)] (w22.setRow b3 (grCells x).toArray)) := (HS23.out).row 1 rfl (grCells x)
    clear HS23
    generalize (w22.setRow b3 (grCells x).toArray) = w63 at *
    refine bodyPost_ret (results_ob_tmp Try.results39 _ _ b3 (grCells x) 29 _ rfl ((HS64.out).get 1 rfl) HUG.out rfl info_gr) rfl ?_
    exact ⟨rfl, (HS64.out).old⟩
end Go.Proofs.Ytcnaalbpbalgdaa
/- the program's Waiting and turn (locks) -/
namespace Go.Proofs.Ytcnaalbpbalgdaa
open Go.RowKit
set_option maxRecDepth 20000
set_option linter.unusedSimpArgs false
set_option linter.unusedVariables false

def passB (h : List Gr) (g : Gr) (x : Gr) : Bool := decide (x.page = g.page) && (decide (x.slot = g.slot) && decide (modeG h x = 0))
theorem up_dec {h : List Gr} (hok : ∀ g ∈ h, GrOk g) (x : Gr) : decide (0 < modeG h x) = !decide (modeG h x = 0) := by
  have := modeR_ge hok x.tx x.page x.slot
  by_cases h0 : modeG h x = 0
  · rw [decide_eq_true h0]
    have : ¬ 0 < modeG h x := by omega
    rw [decide_eq_false this]; rfl
  · rw [decide_eq_false h0]
    have : 0 < modeG h x := by unfold modeG at h0 ⊢; omega
    rw [decide_eq_true this]; rfl
theorem eg_turn : EntersF 59 := enters_of Try.func59 (by kernel_rfl) rfl
set_option maxHeartbeats 4000000 in
theorem turn_at {hv v : Value} (t : Tb) (R : List Rng) (g : Gr) (hg : GoodGr g) (ht : TbRd hv v t R) (hh : HeldOk t.held) (hl : t.held.length ≤ 200000) (b c : Nat) (l : List Gr) (hgo : ∀ x ∈ l, GoodGr x) :
    GrAt 59 #[.pointer (some ⟨b, 0, none⟩), .pointer (some ⟨c, 0, none⟩)] (passB t.held g) l ([(b, 0, grCells g), (c, 0, tbCells hv v)] ++ R) := by
  intro W x hx hR
  have hb := hR (b, 0, grCells g) (by simp)
  have hc := hR (c, 0, tbCells hv v) (by simp)
  have hr : RdIn W R := hR.sub (fun r h => List.mem_append_right _ h)
  obtain ⟨a, cap, rfl, _, _⟩ := ht.1.shape
  have HUp : Hid (∀ V, Below W.heap.size W V → Calls Try.prog 60 #[.slice a t.held.length cap, .agg (grCells x).toArray] V fun e w' => e = .returned (.bool (decide (0 < modeG t.held x))) ∧ Below V.heap.size V w') := fun V h2 => upgrade_any x t.held _ R V hh.up ht.1 (hr.below h2) hl
  have HLtb : Hid (b < W.heap.size) := hb.1
  have HLtc : Hid (c < W.heap.size) := hc.1
  have g1 : W.cell? ⟨b, 1, none⟩ = some (.int .i64 g.page) := hb.2 1 _ rfl
  have g2 : W.cell? ⟨b, 2, none⟩ = some (.int .i64 g.slot) := hb.2 2 _ rfl
  have c0 : W.cell? ⟨c, 0, none⟩ = some (.slice a t.held.length cap) := hc.2 0 _ rfl
  have hq : ∀ W, Sem.run Try.prog (binOp .eql 27 (.agg #[.int .i64 x.page, .int .i64 x.slot]) (.agg #[.int .i64 g.page, .int .i64 g.slot])) W = .ok (.bool (sameV x.lock g.lock)) W := fun W => run_eql (equal_lk x.lock g.lock (hgo x hx).lock hg.lock) W
  have hs := lock_same x g.lock
  have HV : Hid (passB t.held g x = (sameV x.lock g.lock && !decide (0 < modeG t.held x))) := Lib.hid (by unfold passB; rw [hs, up_dec hh.ok, Bool.not_not, Bool.and_assoc])
  have h1 := (Hp.start W).put 29 (grCells x)
  have HS0 : Hid (Hp W [.ob W.heap.size 29 (grCells x)] (W.alloc (.cells (grCells x).toArray 29))) := h1
  clear h1 hR hb hc hg hgo hs hr ht hh hl
  obtain ⟨fs, hu⟩ := under_gr
  have HUG := Lib.hid hu
  clear hu
  generalize sameV x.lock g.lock = q at *
  obtain ⟨pb, hpb⟩ : ∃ pb, passB t.held g x = pb := ⟨_, rfl⟩
  show Calls Try.prog 59 #[.agg (grCells x).toArray, .pointer (some ⟨b, 0, none⟩), .pointer (some ⟨c, 0, none⟩)] W fun e w' => e = .returned (.bool (passB t.held g x)) ∧ Below W.heap.size W w'
  rw [hpb] at HV ⊢
  clear hpb
  generalize decide (0 < modeG t.held x) = up at *
  go_enter Try.func59, Try.ntmps59
  go_upto_region 1 with (fail)
  have x1 : (W.alloc (.cells (grCells x).toArray 29)).cell? ⟨W.heap.size, 1, none⟩ = some (.int .i64 x.page) := HS0.out.at 0 rfl 1 rfl
  have x2 : (W.alloc (.cells (grCells x).toArray 29)).cell? ⟨W.heap.size, 2, none⟩ = some (.int .i64 x.slot) := HS0.out.at 0 rfl 2 rfl
  have dg1 := (HS0.out.old.cell (p := ⟨b, 1, none⟩) HLtb.out).trans g1
  have dg2 := (HS0.out.old.cell (p := ⟨b, 2, none⟩) HLtb.out).trans g2
  have dc0 := (HS0.out.old.cell (p := ⟨c, 0, none⟩) HLtc.out).trans c0
  clear g1 g2 c0
  generalize (W.alloc (.cells (grCells x).toArray 29)) = w1 at *
  cases q
  · have HX : Hid (pb = false) := Lib.hid (by rw [HV.out]; rfl)
    go_wp2_with fail
    go_ret
    exact ⟨by rw [HX.out]; rfl, HS0.out.old⟩
  · have HX : Hid (pb = !up) := Lib.hid (by rw [HV.out]; rfl)
    go_wp2_with (first | ((with_reducible refine wpList_load_ob_w 29 (.tmp 3) W.heap.size (grCells x) 29 HUG.out ?_ ?_ ?_ ?_ ?_ ?_); (exact rfl); (exact rfl); (exact HS0.out.get 0 rfl); (exact rfl); (exact info_gr); simp only [Act.put, List.setIfInBounds_toArray, List.set_cons_zero, List.set_cons_succ]))
    refine (HUp.out _ HS0.out.old).mono ?_
    rintro e w2 ⟨rfl, hb⟩
    have HS1 := Lib.hid (HS0.out.calls hb)
    clear hb x1 x2 dg1 dg2 dc0 HS0
    go_wp2_with fail
    go_ret
    exact ⟨by rw [HX.out]; rfl, HS1.out.old⟩
theorem wplace_idx (h l : List Gr) (g : Gr) : (idxR (passB h g) l = -1 ∧ wplaceR h l g = l.length) ∨ ∃ k : Nat, k < l.length ∧ idxR (passB h g) l = (k : Int) ∧ (wplaceR h l g = if modeG h g = 0 then l.length else k) := by
  by_cases hi : idxR (passB h g) l = -1
  · refine .inl ⟨hi, ?_⟩
    unfold wplaceR
    split
    · rfl
    · rw [List.findIdx_eq_length]
      intro x hx
      have := List.all_eq_true.1 (idxR_neg hi) x hx
      unfold passB at this
      rw [Bool.not_eq_true'] at this
      exact this
  · obtain ⟨k, hk, e, ha, hx⟩ := idxR_pos hi
    refine .inr ⟨k, hk, e, ?_⟩
    unfold wplaceR
    split
    · rfl
    · rw [List.findIdx_eq hk]
      refine ⟨by unfold passB at hx; exact hx, fun j hj => ?_⟩
      have hm : l[j] ∈ l.take k := List.mem_take_iff_getElem.2 ⟨j, by omega, rfl⟩
      have := List.all_eq_true.1 ha _ hm
      unfold passB at this
      rw [Bool.not_eq_true'] at this
      exact this
set_option maxHeartbeats 8000000 in
theorem turn_any {h v : Value} {t : Tb} {R : List Rng} (g : Gr) (w : World) (ht : TbRd h v t R) (hR : RdIn w R) (hg : GoodTb t) (hk : GoodGr g) (hh : HeldOk t.held) :
    Calls Try.prog 44 #[.agg (tbCells h v).toArray, .agg (grCells g).toArray] w fun e w' => e = .returned (.int .i64 (wplaceR t.held t.wait g : Nat)) ∧ Below w.heap.size w w' := by
  obtain ⟨a, cap, rfl, hnc, hcm⟩ := ht.1.shape
  obtain ⟨a2, cap2, rfl, hnc2, hcm2⟩ := ht.2.shape
  have HIx : Hid (∀ b c W, Below w.heap.size w W → RdIn W [(b, 0, grCells g), (c, 0, tbCells (.slice a t.held.length cap) (.slice a2 t.wait.length cap2))] → Calls Try.prog 55 #[.slice a2 t.wait.length cap2, .func (.func 59) #[] #[.pointer (some ⟨b, 0, none⟩), .pointer (some ⟨c, 0, none⟩)]] W fun e w' => e = .returned (.int .i64 (idxR (passB t.held g) t.wait)) ∧ Below W.heap.size W w') := fun b c W hb hr => idxGr_any _ _ _ t.wait _ R W eg_turn ((turn_at t R g hk ht hh (by have := hg.few; omega) b c t.wait hg.wait).fn (hr.append (hR.below hb))) ht.2 (hR.below hb) (by have := hg.few; omega)
  have HUp : Hid (∀ W, Below w.heap.size w W → Calls Try.prog 60 #[.slice a t.held.length cap, .agg (grCells g).toArray] W fun e w' => e = .returned (.bool (decide (0 < modeG t.held g))) ∧ Below W.heap.size W w') := fun W hb => upgrade_any g t.held _ R W hh.up ht.1 (hR.below hb) (by have := hg.few; omega)
  have HUd := Lib.hid (up_dec hh.ok g)
  have HWp := Lib.hid (wplace_idx t.held t.wait g)
  have HNw : Hid ((t.wait.length : Int) ≤ 100000) := Lib.hid (by have := hg.few; omega)
  have h1 := (((Hp.start w).put 25 (tbCells (.slice a t.held.length cap) (.slice a2 t.wait.length cap2))).put 29 (grCells g))
  simp only [World.size_alloc, List.nil_append, List.cons_append] at h1
  have HS0 : Hid (Hp w [.ob w.heap.size 25 (tbCells (.slice a t.held.length cap) (.slice a2 t.wait.length cap2)), .ob (w.heap.size + 1) 29 (grCells g)] ((w.alloc (.cells (tbCells (.slice a t.held.length cap) (.slice a2 t.wait.length cap2)).toArray 25)).alloc (.cells (grCells g).toArray 29))) := h1
  clear h1 ht hR hg hk hh hnc hcm hnc2 hcm2
  obtain ⟨fsHUG, huHUG⟩ := under_gr
  have HUG := Lib.hid huHUG
  clear huHUG
  obtain ⟨fsHUT, huHUT⟩ := under_tb
  have HUT := Lib.hid huHUT
  clear huHUT
  generalize idxR (passB t.held g) t.wait = ix at *
  obtain ⟨wp, hwp⟩ : ∃ wp, wplaceR t.held t.wait g = wp := ⟨_, rfl⟩
  rw [hwp] at HWp ⊢
  clear hwp
  generalize decide (0 < modeG t.held g) = up at *
  go_enter Try.func44, Try.ntmps44
  go_upto_region 1 with (fail)
  generalize ((w.alloc (.cells (tbCells (.slice a t.held.length cap) (.slice a2 t.wait.length cap2)).toArray 25)).alloc (.cells (grCells g).toArray 29)) = w1 at *
  generalize hb3 : w.heap.size + 1 = b3 at *
  have b1 : w1.cell? ⟨w.heap.size, 1, none⟩ = some (.slice a2 t.wait.length cap2) := HS0.out.at 0 rfl 1 rfl
  go_wp2_with fail
  have hrd : RdIn w1 [(b3, 0, grCells g), (w.heap.size, 0, tbCells (.slice a t.held.length cap) (.slice a2 t.wait.length cap2))] := fun r hr => by
    rcases List.mem_cons.1 hr with rfl | hr
    · exact ⟨(HS0.out.lt 1 rfl rfl).2, fun j v hv => by rw [Nat.zero_add]; exact HS0.out.at 1 rfl j hv⟩
    · obtain rfl := List.mem_singleton.1 hr
      exact ⟨(HS0.out.lt 0 rfl rfl).2, fun j v hv => by rw [Nat.zero_add]; exact HS0.out.at 0 rfl j hv⟩
  refine (HIx.out _ _ _ HS0.out.old hrd).mono ?_
  rintro e w2 ⟨rfl, hb⟩
  have HS1 := Lib.hid (HS0.out.calls hb)
  clear hb hrd HIx b1 HS0
  have b0 : w2.cell? ⟨w.heap.size, 0, none⟩ = some (.slice a t.held.length cap) := HS1.out.at 0 rfl 0 rfl
  have b1 : w2.cell? ⟨w.heap.size, 1, none⟩ = some (.slice a2 t.wait.length cap2) := HS1.out.at 0 rfl 1 rfl
  rcases HWp.out with ⟨hix, hwp⟩ | ⟨k, hk, hix, hwp⟩
  · subst hix
    have HX := Lib.hid hwp
    clear hwp HWp HUp
    go_wp2_with fail
    go_ret
    exact ⟨by rw [HX.out]; rfl, HS1.out.old⟩
  · subst hix
    have HX := Lib.hid hwp
    have hk0 : (0 : Int) ≤ (k : Int) := by omega
    clear hwp HWp hk
    go_wp2_with (first | ((with_reducible refine wpList_load_ob_w 29 (.tmp 3) b3 (grCells g) 29 HUG.out ?_ ?_ ?_ ?_ ?_ ?_); (exact rfl); (exact rfl); (exact HS1.out.get 1 rfl); (exact rfl); (exact info_gr); simp only [Act.put, List.setIfInBounds_toArray, List.set_cons_zero, List.set_cons_succ]))
    refine (HUp.out _ HS1.out.old).mono ?_
    rintro e w3 ⟨rfl, hb⟩
    have HS2 := Lib.hid (HS1.out.calls hb)
    clear hb HUp b0 b1 HS1
    have b0 : w3.cell? ⟨w.heap.size, 0, none⟩ = some (.slice a t.held.length cap) := HS2.out.at 0 rfl 0 rfl
    have b1 : w3.cell? ⟨w.heap.size, 1, none⟩ = some (.slice a2 t.wait.length cap2) := HS2.out.at 0 rfl 1 rfl
    cases up
    · have HX2 : Hid (wp = t.wait.length) := Lib.hid (by
        have h := HUd.out
        have h0 : modeG t.held g = 0 := by simpa using h
        rw [HX.out, if_pos h0])
      go_wp2_with fail
      go_ret
      exact ⟨by rw [HX2.out]; rfl, HS2.out.old⟩
    · have HX2 : Hid (wp = k) := Lib.hid (by
        have h := HUd.out
        have h0 : ¬ modeG t.held g = 0 := by simpa using h
        rw [HX.out, if_neg h0])
      go_wp2_with fail
      go_ret
      exact ⟨by rw [HX2.out]; rfl, HS2.out.old⟩
end Go.Proofs.Ytcnaalbpbalgdaa
/- rows of whole elements that are written in place -/
namespace Go.Proofs.Ytcnaalbpbalgdaa
open Go.RowKit
set_option maxRecDepth 20000
set_option linter.unusedSimpArgs false
set_option linter.unusedVariables false

theorem run_inj {a b : World} (h : (Result.ok () a : Result Unit) = .ok () b) : a = b := by injection h
theorem setCells_row {W : World} {g o : Nat} {cs cur : List Value} {t : TypeId} (hg : W.heap[g]? = some (.cells cur.toArray t (0, 0))) (hfit : o + cs.length ≤ cur.length) (h1 : ∀ v ∈ cs, v.oneCell' = true) :
    W.setCells g o cs = W.setRow g (splice cur o cs).toArray := by
  have a := run_storeCells_at Try.prog g o t cs 0 cur.toArray W hg (by simpa using hfit) h1
  have b := run_storeCells_cells (P := Try.prog) g o cs 0 W (fun j hj => by
    rw [Nat.add_zero, cell_of_row W g (o + j) _ _ _ hg, List.getElem?_toArray, List.getElem?_eq_getElem (by omega)]; rfl) (fun j hj => frozen_of_row _ _ _ _ _ hg) h1
  rw [a] at b
  simp only [Nat.add_zero] at b
  rw [← run_inj b]
  unfold splice
  rw [List.append_assoc]
theorem grown_setRow (W : World) (g : Nat) (cs : Array Value) : W.grownBy (W.setRow g cs) (some g) := ⟨rfl, rfl, rfl, by simp [World.setRow], fun k hk hne => setRow_other W g k cs (fun e => hne (by rw [e]))⟩
theorem grown_trans {a b c : World} {r : Option Nat} (h : a.grownBy b r) (k : b.grownBy c r) : a.grownBy c r := ⟨k.os.trans h.os, k.tape.trans h.tape, k.output.trans h.output, Nat.le_trans h.size k.size, fun i hi hne => (k.block i (Nat.lt_of_lt_of_le hi h.size) hne).trans (h.block i hi hne)⟩
theorem grown_below {a b : World} {r : Option Nat} (h : Below a.heap.size a b) : a.grownBy b r := ⟨h.os, h.tape, h.output, h.size, fun k hk _ => h.block k hk⟩
theorem grown_then {a b c : World} {r : Option Nat} (h : a.grownBy b r) (k : Below b.heap.size b c) : a.grownBy c r := grown_trans h (grown_below k)
section
variable {α : Type} {enc : α → List Value} {z : Nat}
def encRow (enc : α → List Value) (ys : List α) : List Value := ys.flatMap enc
theorem encRow_len (hz : ∀ x, (enc x).length = z) : ∀ ys : List α, (encRow enc ys).length = ys.length * z
  | [] => by simp [encRow]
  | y :: l => by
    show (enc y ++ encRow enc l).length = _
    rw [List.length_append, hz, encRow_len hz l, List.length_cons, Nat.add_mul]; omega
theorem encRow_append (a b : List α) : encRow enc (a ++ b) = encRow enc a ++ encRow enc b := List.flatMap_append
theorem encRow_at (hz : ∀ x, (enc x).length = z) (rest : List Value) {ys : List α} {k : Nat} (h : k < ys.length) : ∀ j v, (enc ys[k])[j]? = some v → (encRow enc ys ++ rest)[k * z + j]? = some v := by
  intro j v hv
  have hj := (List.getElem?_eq_some_iff.1 hv).1
  rw [hz] at hj
  have e : ys = ys.take k ++ (ys[k] :: ys.drop (k + 1)) := by rw [List.getElem_cons_drop, List.take_append_drop]
  have e2 : encRow enc ys = encRow enc (ys.take k) ++ (enc ys[k] ++ encRow enc (ys.drop (k + 1))) := by
    conv => lhs; rw [e]
    rw [encRow_append]
    rfl
  have l1 : (encRow enc (ys.take k)).length = k * z := by rw [encRow_len hz, List.length_take, Nat.min_eq_left (by omega)]
  rw [e2, List.append_assoc, List.getElem?_append_right (by omega), l1, Nat.add_sub_cancel_left, List.append_assoc, List.getElem?_append_left (by rw [hz]; exact hj)]
  exact hv
theorem encRow_set (hz : ∀ x, (enc x).length = z) (rest : List Value) {ys : List α} {k : Nat} (h : k < ys.length) (y : α) : splice (encRow enc ys ++ rest) (k * z) (enc y) = encRow enc (ys.set k y) ++ rest := by
  have e : ys = ys.take k ++ (ys[k] :: ys.drop (k + 1)) := by rw [List.getElem_cons_drop, List.take_append_drop]
  have e2 : encRow enc ys = encRow enc (ys.take k) ++ (enc ys[k] ++ encRow enc (ys.drop (k + 1))) := by
    conv => lhs; rw [e]
    rw [encRow_append]
    rfl
  have e3 : encRow enc (ys.set k y) = encRow enc (ys.take k) ++ (enc y ++ encRow enc (ys.drop (k + 1))) := by
    rw [List.set_eq_take_append_cons_drop, if_pos h, encRow_append]
    rfl
  have l1 : (encRow enc (ys.take k)).length = k * z := by rw [encRow_len hz, List.length_take, Nat.min_eq_left (by omega)]
  unfold splice
  rw [e2, e3, hz, List.append_assoc, List.take_append_of_le_length (by omega), List.take_of_length_le (by omega), List.drop_append, l1, List.drop_of_length_le (by omega), List.nil_append, Nat.add_sub_cancel_left, List.append_assoc, List.drop_append, hz, List.drop_of_length_le (by rw [hz]; omega), List.nil_append, Nat.sub_self, List.drop_zero, List.append_assoc, List.append_assoc]
theorem encRow_clear (hz : ∀ x, (enc x).length = z) (rest : List Value) {ys : List α} {i : Nat} (h : i ≤ ys.length) (zr : α) : splice (encRow enc ys ++ rest) (i * z) (encRow enc (List.replicate (ys.length - i) zr)) = encRow enc (ys.take i ++ List.replicate (ys.length - i) zr) ++ rest := by
  have e2 : encRow enc ys = encRow enc (ys.take i) ++ encRow enc (ys.drop i) := by rw [← encRow_append, List.take_append_drop]
  have l1 : (encRow enc (ys.take i)).length = i * z := by rw [encRow_len hz, List.length_take, Nat.min_eq_left h]
  have l2 : (encRow enc (ys.drop i)).length = (ys.length - i) * z := by rw [encRow_len hz, List.length_drop]
  have l3 : (encRow enc (List.replicate (ys.length - i) zr)).length = (ys.length - i) * z := by rw [encRow_len hz, List.length_replicate]
  unfold splice
  rw [encRow_append, e2, l3, List.append_assoc, List.take_append_of_le_length (by omega), List.take_of_length_le (by omega), List.drop_append, l1, List.drop_of_length_le (by omega), List.nil_append, Nat.add_sub_cancel_left, List.drop_append, l2, List.drop_of_length_le (by omega), List.nil_append, Nat.sub_self, List.drop_zero, List.append_assoc]
/-- what a search that strikes elements has done so far -/
structure KeptR (p : α → Bool) (l : List α) (j i : Nat) (ys : List α) : Prop where
  len : ys.length = l.length
  num : i = ((l.take j).filter fun x => !p x).length
  low : ys.take i = (l.take j).filter fun x => !p x
  high : ys.drop j = l.drop j
  lt : i < j
theorem KeptR.start {p : α → Bool} {l : List α} {k : Nat} (hk : k < l.length) (hb : (l.take k).all (fun x => !p x) = true) (hx : p l[k] = true) : KeptR p l (k + 1) k l := by
  have e : (l.take (k + 1)).filter (fun x => !p x) = l.take k := by
    rw [List.take_succ_eq_append_getElem hk, List.filter_append, List.filter_eq_self.2 (List.all_eq_true.1 hb)]
    simp [hx]
  exact ⟨rfl, by rw [e, List.length_take]; omega, e.symm, rfl, Nat.lt_succ_self _⟩
theorem KeptR.at {p : α → Bool} {l : List α} {j i : Nat} {ys : List α} (h : KeptR p l j i ys) (hj : j < l.length) : ys[j]'(by rw [h.len]; exact hj) = l[j] := by
  have := congrArg (fun m => m[0]?) h.high
  simp only [List.getElem?_drop, Nat.add_zero] at this
  rw [List.getElem?_eq_getElem (by rw [h.len]; exact hj), List.getElem?_eq_getElem hj] at this
  exact Option.some.inj this
theorem KeptR.keep {p : α → Bool} {l : List α} {j i : Nat} {ys : List α} (h : KeptR p l j i ys) (hj : j < l.length) (hx : p l[j] = false) : KeptR p l (j + 1) (i + 1) (ys.set i l[j]) := by
  have e : (l.take (j + 1)).filter (fun x => !p x) = (l.take j).filter (fun x => !p x) ++ [l[j]] := by
    rw [List.take_succ_eq_append_getElem hj, List.filter_append]
    simp [hx]
  have hlt := h.lt
  have hlen := h.len
  refine ⟨by rw [List.length_set]; exact hlen, by rw [e, List.length_append, ← h.num]; rfl, ?_, ?_, by omega⟩
  · rw [e, ← h.low, List.take_succ_eq_append_getElem (by rw [List.length_set]; omega), List.getElem_set_self]
    congr 1
    rw [List.take_set_of_le (Nat.le_refl _)]
  · rw [List.drop_set_of_lt (by omega)]
    have := congrArg (List.drop 1) h.high
    rw [List.drop_drop, List.drop_drop] at this
    exact this
theorem KeptR.skip {p : α → Bool} {l : List α} {j i : Nat} {ys : List α} (h : KeptR p l j i ys) (hj : j < l.length) (hx : p l[j] = true) : KeptR p l (j + 1) i ys := by
  have e : (l.take (j + 1)).filter (fun x => !p x) = (l.take j).filter (fun x => !p x) := by
    rw [List.take_succ_eq_append_getElem hj, List.filter_append]
    simp [hx]
  have hlt := h.lt
  refine ⟨h.len, by rw [e]; exact h.num, by rw [e]; exact h.low, ?_, by omega⟩
  have := congrArg (List.drop 1) h.high
  rw [List.drop_drop, List.drop_drop] at this
  exact this
theorem KeptR.done {p : α → Bool} {l : List α} {i : Nat} {ys : List α} (h : KeptR p l l.length i ys) : ys.take i = l.filter (fun x => !p x) ∧ i = (l.filter fun x => !p x).length := by
  have h1 := h.low
  have h2 := h.num
  rw [List.take_length] at h1 h2
  exact ⟨h1, h2⟩
end
/-- a slice of its own, opened: its block's row -/
theorem own_open {α : Type} {enc : α → List Value} {z : Nat} (hz : ∀ x, (enc x).length = z) {B : Nat} {W : World} {e : TypeId} {n : Nat} {l : List α} {v : Value} (h : W.ownsRow B e z v n (encRow enc l)) (hn : n = l.length) (h0 : 0 < z) :
    (v = .slice none 0 0 ∧ l = []) ∨ ∃ g cap rest, v = .slice (some ⟨g, 0, none⟩) l.length cap ∧ B ≤ g ∧ W.heap[g]? = some (.cells (encRow enc l ++ rest).toArray e (0, 0)) ∧ l.length ≤ cap ∧ cap ≤ maxLen ∧ (encRow enc l ++ rest).length = cap * z := by
  subst hn
  rcases h.2 with ⟨hv, h1⟩ | ⟨g, cap, cur, hv, hB, hg, h1, h2, h3, h4⟩
  · exact .inl ⟨hv, List.eq_nil_of_length_eq_zero h1⟩
  · refine .inr ⟨g, cap, cur.toList.drop (l.length * z), hv, hB, ?_, h1, h2, ?_⟩
    · rw [hg, ← h4, List.take_append_drop]
    · rw [← h4, List.take_append_drop]; simpa using h3
theorem own_close {α : Type} {enc : α → List Value} {z : Nat} (hz : ∀ x, (enc x).length = z) {B : Nat} {W : World} {e : TypeId} {g cap : Nat} {l m : List α} {rest : List Value} (hB : B ≤ g) (hg : W.heap[g]? = some (.cells (encRow enc (l ++ m) ++ rest).toArray e (0, 0))) (h1 : l.length ≤ cap) (h2 : cap ≤ maxLen) (h3 : (encRow enc (l ++ m) ++ rest).length = cap * z) :
    W.ownsRow B e z (.slice (some ⟨g, 0, none⟩) l.length cap) l.length (encRow enc l) := by
  refine ⟨encRow_len hz l, .inr ⟨g, cap, _, rfl, hB, hg, h1, h2, by simpa using h3, ?_⟩⟩
  rw [encRow_append, List.append_assoc]
  rw [← encRow_len hz l]
  simp
theorem zero_row {α : Type} {enc : α → List Value} {z : Nat} (hz : ∀ x, (enc x).length = z) (h0 : 0 < z) (zr : α) (zv : Value) (hv : zv.cells.toList = enc zr) (n : Nat) : (Builtin.zeroCells zv.cells n).toList = encRow enc (List.replicate n zr) := by
  have hs : zv.cells.size = z := by rw [← Array.length_toList, hv, hz]
  apply List.ext_getElem
  · rw [encRow_len hz, List.length_replicate]
    simp [Builtin.zeroCells, hs]
  · intro i h1 h2
    rw [encRow_len hz, List.length_replicate] at h2
    have hk : i / z < n := Nat.div_lt_of_lt_mul (by rw [Nat.mul_comm]; exact h2)
    have hm : i % z < z := Nat.mod_lt _ h0
    have hat := encRow_at hz [] (ys := List.replicate n zr) (k := i / z) (by rw [List.length_replicate]; exact hk) (i % z) _ (List.getElem?_eq_getElem (by rw [hz]; exact hm))
    rw [List.append_nil, show i / z * z + i % z = i from by rw [Nat.mul_comm]; exact Nat.div_add_mod i z] at hat
    have e1 := (List.getElem?_eq_some_iff.1 hat).2
    rw [e1]
    simp only [List.getElem_replicate]
    simp only [Builtin.zeroCells, Array.toList_map, List.getElem_map, Array.getElem_toList, Array.getElem_range, hs]
    rw [getElem!_pos zv.cells (i % z) (by rw [hs]; exact hm)]
    have e2 : zv.cells.toList[i % z]'(by rw [Array.length_toList, hs]; exact hm) = (enc zr)[i % z]'(by rw [hz]; exact hm) := by
      simp only [hv]
    rw [← e2, Array.getElem_toList]
/-- what is cleared -/
theorem run_clear_row {α : Type} {enc : α → List Value} {z : Nat} (hz : ∀ x, (enc x).length = z) (h0 : 0 < z) {t e : TypeId} (ht : Try.prog.underlying t = some (.slice e)) (zr : α) (zv : Value) (hv : zv.cells.toList = enc zr) (hzv : ∀ W, (zeroValue e).run Try.prog W = .ok zv W) (W : World) {g i : Nat} {ys : List α} {rest : List Value} (hg : W.heap[g]? = some (.cells (encRow enc ys ++ rest).toArray e (0, 0))) (hi : i < ys.length)
    (h1 : ∀ v ∈ enc zr, v.oneCell' = true) (ty : TypeId) (c : Nat) :
    (Builtin.clear_ #[t] ty #[.slice (some ⟨g, i * z, none⟩) (ys.length - i) c]).run Try.prog W = .ok (.tuple #[]) (W.setRow g (encRow enc (ys.take i ++ List.replicate (ys.length - i) zr) ++ rest).toArray) := by
  have hlen : i * z + (encRow enc (List.replicate (ys.length - i) zr)).length ≤ (encRow enc ys ++ rest).length := by
    rw [encRow_len hz, List.length_replicate, List.length_append, encRow_len hz, ← Nat.add_mul, show i + (ys.length - i) = ys.length from by omega]
    omega
  have hone : ∀ v ∈ encRow enc (List.replicate (ys.length - i) zr), v.oneCell' = true := fun v hv' => by
    obtain ⟨x, hx, hxv⟩ := List.mem_flatMap.1 hv'
    rw [List.eq_of_mem_replicate hx] at hxv
    exact h1 v hxv
  have hst := run_storeCells_at Try.prog g (i * z) e (encRow enc (List.replicate (ys.length - i) zr)) 0 _ W hg (by simpa using hlen) hone
  rw [← encRow_clear hz rest (Nat.le_of_lt hi) zr]
  have hs : ∀ (l : List Value) (o : Nat) (cs : List Value), l.take o ++ cs ++ l.drop (o + cs.length) = splice l o cs := fun l o cs => by unfold splice; rw [List.append_assoc]
  simp only [Nat.add_zero, hs] at hst
  obtain ⟨m, hm⟩ : ∃ m, ys.length - i = m + 1 := ⟨ys.length - i - 1, by omega⟩
  have hzr := zero_row hz h0 zr zv hv (ys.length - i)
  rw [hm] at hst hzr ⊢
  simp [Builtin.clear_, run_underlying ht, hzv, hzr, hst]
theorem row_src {W : World} {g : Nat} {cur cs : List Value} {t : TypeId} (h : W.heap[g]? = some (.cells cur.toArray t (0, 0))) (o : Nat) (hc : ∀ j u, cs[j]? = some u → cur[o + j]? = some u) : ∀ j u, cs[j]? = some u → W.cell? ((⟨g, o, none⟩ : Addr).add j) = some u := fun j u hj => by
  rw [Addr.add_mid, cell_of_row W g (o + j) _ _ _ h, List.getElem?_toArray]
  exact hc j u hj
theorem grRow_enc (l : List Gr) : grRow l = encRow grCells l := rfl
theorem grCells_len (x : Gr) : (grCells x).length = 4 := rfl
end Go.Proofs.Ytcnaalbpbalgdaa
/- the library's DeleteFunc over grants -/
namespace Go.Proofs.Ytcnaalbpbalgdaa
open Go.RowKit
set_option maxRecDepth 20000
set_option linter.unusedSimpArgs false
set_option linter.unusedVariables false

theorem zeroV_gr (W : World) : (zeroValue 29).run Try.prog W = .ok (.agg (grCells grNil).toArray) W := by kernel_rfl
theorem one_grl (x : Gr) : ∀ u ∈ grCells x, u.oneCell' = true := by
  intro u hu
  simp only [grCells, List.mem_cons, List.not_mem_nil, or_false] at hu
  rcases hu with rfl | rfl | rfl | rfl <;> rfl
/-- a function of a fault that answers the same whatever block g holds -/
def GrFnX (gn : Nat) (lb : Array Value) (p : Gr → Bool) (l : List Gr) (g : Option Nat) (w : World) : Prop :=
  ∀ W x, x ∈ l → w.grownBy W g → Calls Try.prog gn (#[.agg (grCells x).toArray] ++ lb) W fun e w' => e = .returned (.bool (p x)) ∧ Below W.heap.size W w'
set_option maxHeartbeats 8000000 in
theorem delGr_row (gn : Nat) (lb : Array Value) (q : Gr → Bool) (l : List Gr) (g cap : Nat) (rest : List Value) (w : World) (eg : EntersF gn) (hp : GrFnX gn lb q l (some g) w) (hl : l.length ≤ 200000) (hcap : l.length ≤ cap) (hcm : cap ≤ maxLen)
    (hg : w.heap[g]? = some (.cells (encRow grCells l ++ rest).toArray 29 (0, 0))) :
    Calls Try.prog 67 #[.slice (some ⟨g, 0, none⟩) l.length cap, .func (.func gn) #[] lb] w fun e w' => e = .returned (.slice (some ⟨g, 0, none⟩) (l.filter fun x => !q x).length cap) ∧
      (∃ m : List Gr, (l.filter (fun x => !q x) ++ m).length = l.length ∧ w'.heap[g]? = some (.cells (encRow grCells (l.filter (fun x => !q x) ++ m) ++ rest).toArray 29 (0, 0))) ∧ w.grownBy w' (some g) := by
  have hlt0 : g < w.heap.size := (Array.getElem?_eq_some_iff.1 hg).1
  have HRow : Hid (∀ (W : World) (ys : List Gr), W.heap[g]? = some (.cells (encRow grCells ys ++ rest).toArray 29 (0, 0)) → ∀ k (h : k < ys.length), W.rangeAt g (k * 4) (grCells ys[k])) := fun W ys hW k h j u hj => by
    rw [cell_of_row W g (k * 4 + j) _ _ _ hW, List.getElem?_toArray]
    exact encRow_at grCells_len rest h j u hj
  have hIx : Calls Try.prog 55 #[.slice (some ⟨g, 0, none⟩) l.length cap, .func (.func gn) #[] lb] w fun e w' => e = .returned (.int .i64 (idxR q l)) ∧ Below w.heap.size w w' :=
    idxGr_any gn lb q l _ [(g, 0, grRow l)] w eg (fun W x hx hb => hp W x hx (grown_below hb)) ⟨_, cap, rfl, encRow_len grCells_len l, hcap, hcm, fun _ => ⟨g, 0, rfl, List.mem_singleton.2 rfl⟩, fun h => by cases h⟩ (fun r hr => by
      obtain rfl := List.mem_singleton.1 hr
      refine ⟨hlt0, fun j u hj => ?_⟩
      have hj' : (encRow grCells l)[j]? = some u := hj
      show w.cell? ⟨g, 0 + j, none⟩ = some u
      rw [cell_of_row w g (0 + j) _ _ _ hg, List.getElem?_toArray, Nat.zero_add, List.getElem?_append_left (List.getElem?_eq_some_iff.1 hj').1]
      exact hj') hl
  have HP := Lib.hid hp
  have HG0 := Lib.hid hg
  have HC : Hid (l.length ≤ cap ∧ cap ≤ maxLen ∧ l.length ≤ 200000 ∧ g < w.heap.size) := ⟨hcap, hcm, hl, hlt0⟩
  obtain ⟨fs, huf⟩ := under_gr
  have HUF := Lib.hid huf
  clear hp hg hcap hcm hl huf hlt0
  unfold EntersF at eg
  by_cases hr : idxR q l = -1
  · have hall := idxR_neg hr
    rw [hr] at hIx
    have HF : Hid (l.filter (fun x => !q x) = l) := List.filter_eq_self.2 (List.all_eq_true.1 hall)
    clear hr hall
    go_enter Try.func67, Try.ntmps67
    go_wp2_with fail
    refine hIx.mono ?_
    rintro e w2 ⟨rfl, hb⟩
    have HB := Lib.hid hb
    clear hb hIx
    go_wp2_with fail
    go_ret
    refine ⟨by rw [HF.out]; rfl, ⟨[], by rw [HF.out, List.append_nil], ?_⟩, grown_below HB.out⟩
    rw [HF.out, List.append_nil]
    exact (HB.out.block _ HC.out.2.2.2).trans HG0.out
  · obtain ⟨k0, hk0, e0, hall, hx⟩ := idxR_pos hr
    have HK0 := Lib.hid (KeptR.start hk0 hall hx)
    have HK1 := Lib.hid hk0
    rw [e0] at hIx
    clear hr e0 hall hx
    have hk01 : ((k0 : Int) == -1) = false := by rw [beq_eq_false_iff_ne]; omega
    have hk0m : (k0 : Int) < 200001 := by have := HC.out; omega
    clear hk0
    go_enter Try.func67, Try.ntmps67
    go_wp2_with fail
    refine hIx.mono ?_
    rintro e w2 ⟨rfl, hb⟩
    have HB : Hid (w.grownBy w2 (some g) ∧ w2.heap[g]? = some (.cells (encRow grCells l ++ rest).toArray 29 (0, 0))) := ⟨grown_below hb, (hb.block _ HC.out.2.2.2).trans HG0.out⟩
    clear hb hIx
    go_wp2_with fail
    go_loopw [5, 6] (fun si sj wr => ∃ (i j : Nat) (ys : List Gr), si = .int .i64 i ∧ sj = .int .i64 j ∧ j ≤ l.length ∧ KeptR q l j i ys ∧ w.grownBy wr (some g) ∧ wr.heap[g]? = some (.cells (encRow grCells ys ++ rest).toArray 29 (0, 0))) (fun _ sj _ => l.length - (intOf sj).toNat)
    case atStart => exact ⟨k0, k0 + 1, l, rfl, by go_num, HK1.out, HK0.out, HB.out.1, HB.out.2⟩
    case round =>
      clear hk01 hk0m
      obtain ⟨i, j, ys, rfl, rfl, hj, hk, hgb, hgr⟩ := hrel
      have HK := Lib.hid hk
      have HGb := Lib.hid hgb
      have HGr := Lib.hid hgr
      clear hk hgb hgr HB
      by_cases hlt : j < l.length
      · have hji : (j : Int) < (l.length : Int) := by omega
        have hj0 : (0 : Int) ≤ (j : Int) := by omega
        have hjm : (j : Int) < 200000 := by have := HC.out; omega
        have hi0 : (0 : Int) ≤ (i : Int) := by omega
        have hil : (i : Int) < (l.length : Int) := by have := HK.out.lt; omega
        have him : (i : Int) < 200000 := by have := HK.out.lt; omega
        obtain ⟨x, hxe⟩ : ∃ x, l[j] = x := ⟨_, rfl⟩
        have HXe := Lib.hid hxe
        have hylen := HK.out.len
        have hjy : j < ys.length := by omega
        have HMid : Hid (wr.rangeAt g (j * 4) (grCells x)) := by
          have h := HRow.out wr ys HGr.out j hjy
          rw [HK.out.at hlt, hxe] at h
          exact h
        have hlw : g < wr.heap.size := Nat.lt_of_lt_of_le HC.out.2.2.2 HGb.out.size
        have HW1 : Hid (Below wr.heap.size wr ((wr.alloc (.cells (grCells grNil).toArray 29)).setRow wr.heap.size (grCells x).toArray)) := below_setRow ((Below.refl _ _).alloc (Nat.le_refl _) _) (Nat.le_refl _) _
        have HV1 : Hid (((wr.alloc (.cells (grCells grNil).toArray 29)).setRow wr.heap.size (grCells x).toArray).heap[wr.heap.size]? = some (.cells (grCells x).toArray 29 (0, 0))) := setRow_heap _ _ _ _ _ _ (heap_alloc_last wr _)
        have HSz1 : Hid (wr.heap.size < ((wr.alloc (.cells (grCells grNil).toArray 29)).setRow wr.heap.size (grCells x).toArray).heap.size) := (Array.getElem?_eq_some_iff.1 HV1.out).1
        have hcall := HP.out _ x (by rw [← hxe]; exact List.getElem_mem hlt) (grown_then HGb.out HW1.out)
        have HYes := Lib.hid (fun h : q x = false => HK.out.keep hlt (by rw [hxe]; exact h))
        have HNo := Lib.hid (fun h : q x = true => HK.out.skip hlt (by rw [hxe]; exact h))
        have HILt : Hid (i < ys.length) := by show _ < _; have := HK.out.lt; omega
        clear hxe hylen hjy hj
        go_wp2_with (first | ((with_reducible refine wpList_load_at 29 (.tmp 24) g (j * 4) (grCells x) HUF.out ?_ ?_ ?_ ?_ ?_); (exact rfl); (exact HMid.out); (exact rfl); (exact info_gr); simp only [Act.put, List.setIfInBounds_toArray, List.set_cons_zero, List.set_cons_succ]) | ((with_reducible refine wpList_alloc_ob 29 (grCells grNil) ?_ ?_); (exact alloc_gr); simp only [Act.put, List.setIfInBounds_toArray, List.set_cons_zero, List.set_cons_succ]) | ((with_reducible refine wpList_store_ob 29 (.tmp 7) wr.heap.size (grCells x) (grCells grNil) 29 ?_ ?_ ?_ ?_ ?_ ?_ ?_); (exact rfl); (exact rfl); (exact heap_alloc_last wr _); (exact info_gr); (exact rfl); (exact oneCell_gr _); skip) | ((with_reducible refine wpList_load_ob 29 (.tmp 7) wr.heap.size (grCells x) 29 HUF.out ?_ ?_ ?_ ?_ ?_); (exact rfl); (exact HV1.out); (exact rfl); (exact info_gr); simp only [Act.put, List.setIfInBounds_toArray, List.set_cons_zero, List.set_cons_succ]))
        refine hcall.mono ?_
        rintro e w3 ⟨rfl, hb⟩
        have HB3 : Hid (w.grownBy w3 (some g)) := grown_then (grown_then HGb.out HW1.out) hb
        have HG3 : Hid (w3.heap[g]? = some (.cells (encRow grCells ys ++ rest).toArray 29 (0, 0))) := ((hb.block g (Nat.lt_trans hlw HSz1.out)).trans (HW1.out.block g hlw)).trans HGr.out
        have HV3 : Hid (w3.heap[wr.heap.size]? = some (.cells (grCells x).toArray 29 (0, 0))) := (hb.block _ HSz1.out).trans HV1.out
        clear hb hcall HW1 HV1 HSz1 HGb HGr HMid hlw
        generalize wr.heap.size = bx at *
        cases hq : q x
        · have HK2 := Lib.hid (HYes.out hq)
          have HTh : Hid (w3.there g (i * 4) (grCells x).toArray.size) := fun t ht => by
            have ht6 : t < 4 := ht
            refine ⟨?_, frozen_of_row _ _ _ _ _ HG3.out⟩
            have h := HRow.out w3 ys HG3.out i HILt.out t _ (List.getElem?_eq_getElem (by rw [grCells_len]; exact ht6))
            rw [h]; rfl
          have HW4 : Hid (w3.setCells g (i * 4) (grCells x).toArray.toList = w3.setRow g (encRow grCells (ys.set i x) ++ rest).toArray) := by
            show _ = _
            rw [show (grCells x).toArray.toList = grCells x from rfl, setCells_row HG3.out (by
              rw [List.length_append, encRow_len grCells_len, grCells_len]
              have := HILt.out
              have h6 : i * 4 + 4 ≤ ys.length * 4 := by omega
              omega) (one_grl x), encRow_set grCells_len rest HILt.out]
          clear HYes HNo
          go_wp2_with (first | ((with_reducible refine wpList_load_ob 29 (.tmp 7) bx (grCells x) 29 HUF.out ?_ ?_ ?_ ?_ ?_); (exact rfl); (exact HV3.out); (exact rfl); (exact info_gr); simp only [Act.put, List.setIfInBounds_toArray, List.set_cons_zero, List.set_cons_succ]) | ((with_reducible refine wpList_store_mid rfl 29 (.tmp 33) (.tmp 32) rfl g (i * 4) (grCells x).toArray ?_ ?_ ?_ ?_ ?_ ?_); (exact rfl); (exact rfl); (exact HTh.out); (exact info_gr); (exact oneCell_gr _); skip))
          go_roundw
          case rel => exact ⟨i + 1, j + 1, ys.set i x, by go_num, by go_num, by omega, by rw [← HXe.out]; exact (by have h := HK2.out; rw [HXe.out] at h ⊢; exact h), by rw [HW4.out]; exact grown_trans HB3.out (grown_setRow _ _ _), by rw [HW4.out]; exact setRow_heap _ _ _ _ _ _ HG3.out⟩
          case measure => simp [intOf]; omega
        · have HK2 := Lib.hid (HNo.out hq)
          clear HYes HNo
          go_wp2_with fail
          go_roundw
          case rel => exact ⟨i, j + 1, ys, rfl, by go_num, by omega, HK2.out, HB3.out, HG3.out⟩
          case measure => simp [intOf]; omega
      · obtain rfl : j = l.length := by omega
        have hilt : i < l.length := HK.out.lt
        have hic : ¬ (cap = i) := by have := HC.out; omega
        have hil : (i : Int) ≤ (l.length : Int) := by omega
        have hi0 : (0 : Int) ≤ (i : Int) := by omega
        have hcl0 : (i : Int) ≤ (cap : Int) := by have := HC.out; omega
        have hcl := fun ty c => run_clear_row (t := 23) grCells_len (by decide) Try.underlying23 grNil (.agg (grCells grNil).toArray) rfl zeroV_gr wr HGr.out (i := i) (by rw [HK.out.len]; exact hilt) (one_grl _) ty c
        rw [HK.out.len] at hcl
        clear hlt
        go_wp2_with fail
        go_ret
        obtain ⟨h1, h2⟩ := HK.out.done
        refine ⟨by rw [← h2]; rfl, ⟨List.replicate (l.length - i) grNil, ?_, ?_⟩, grown_trans HGb.out (grown_setRow _ _ _)⟩
        · rw [List.length_append, ← h2, List.length_replicate]; omega
        · rw [← h1]; exact setRow_heap _ _ _ _ _ _ HGr.out
set_option maxHeartbeats 4000000 in
theorem delGr_own (gn : Nat) (lb : Array Value) (q : Gr → Bool) (l : List Gr) (v : Value) (B0 : Nat) (w : World) (eg : EntersF gn) (own : w.ownsRow B0 29 4 v l.length (grRow l)) (hp : GrFnX gn lb q l v.ownBlock w) (hl : l.length ≤ 200000) :
    Calls Try.prog 67 #[v, .func (.func gn) #[] lb] w fun e w' => ∃ v', e = .returned v' ∧ w'.ownsRow B0 29 4 v' (l.filter fun x => !q x).length (grRow (l.filter fun x => !q x)) ∧ w.grownBy w' v.ownBlock ∧ v'.ownBlock = v.ownBlock := by
  have own' := own
  rw [grRow_enc] at own'
  rcases own_open grCells_len own' rfl (by decide) with ⟨rfl, rfl⟩ | ⟨g, cap, rest, rfl, hB, hg, h1, h2, h3⟩
  · have hIx := idxGr_any gn lb q [] (.slice none 0 0) [] w eg (fun W x hx => by cases hx) (SlRd.nil 4 []) (RdIn.nil w) (by simp)
    have e0 : idxR q ([] : List Gr) = -1 := idxR_none rfl
    rw [e0] at hIx
    clear own own' hp hl e0
    go_enter Try.func67, Try.ntmps67
    go_wp2_with fail
    refine hIx.mono ?_
    rintro e w2 ⟨rfl, hb⟩
    clear hIx
    have HB := Lib.hid hb
    clear hb
    go_wp2_with fail
    go_ret
    exact ⟨_, rfl, ⟨by simp [grRow], .inl ⟨rfl, by simp⟩⟩, grown_below HB.out, rfl⟩
  · refine (delGr_row gn lb q l g cap rest w eg hp hl h1 h2 hg).mono ?_
    rintro e w2 ⟨rfl, ⟨m, hm1, hm2⟩, hgr⟩
    refine ⟨_, rfl, ?_, hgr, rfl⟩
    rw [grRow_enc]
    refine own_close grCells_len hB hm2 (Nat.le_trans (List.length_filter_le _ _) h1) h2 ?_
    rw [List.length_append, encRow_len grCells_len, hm1]
    rw [List.length_append, encRow_len grCells_len] at h3
    exact h3
end Go.Proofs.Ytcnaalbpbalgdaa
/- the library's copy of grants -/
namespace Go.Proofs.Ytcnaalbpbalgdaa
open Go.RowKit
set_option maxRecDepth 20000
set_option linter.unusedSimpArgs false
set_option linter.unusedVariables false

set_option maxHeartbeats 4000000 in
theorem cloneG_any (l : List Gr) (v : Value) (R : List Rng) (w : World) (hv : SlRd v 4 l.length (grRow l) R) (hR : RdIn w R) (hl : l.length ≤ 200000) :
    Calls Try.prog 43 #[v] w fun e w' => ∃ u, e = .returned u ∧ Below w.heap.size w w' ∧ w'.ownsRow w.heap.size 29 4 u l.length (grRow l) := by
  have HV := Lib.hid hv
  have HR := Lib.hid hR
  have HL := Lib.hid hl
  obtain ⟨a, cap, rfl, h1, h2, h3, h4, h5⟩ := hv
  have HUT : Hid (Try.prog.underlying 23 = some (.slice 29)) := Try.underlying23
  have hq : ∀ W, Sem.run Try.prog (binOp .eql 23 (.slice a l.length cap) (.slice none 0 0)) W = .ok (.bool a.isNone) W := fun W => Lib.run_eql_slice_nil W _ _ a l.length cap 0 0 HUT.out
  clear hR hl
  cases a with
  | none =>
    have hq2 : ∀ W, Sem.run Try.prog (binOp .eql 23 (.slice none l.length cap) (.slice none 0 0)) W = .ok (.bool true) W := hq
    have hc := h5 rfl
    have hn : l.length = 0 := by omega
    have HX : Hid (Below w.heap.size w w ∧ w.ownsRow w.heap.size 29 4 (.slice none 0 0) l.length (grRow l)) := ⟨Below.refl _ _, by rw [hn]; exact ⟨by rw [h1, hn], .inl ⟨rfl, rfl⟩⟩⟩
    clear h1 h2 h3 h4 h5 hq hc
    rw [hn] at hq2
    rw [hn]
    go_enter Try.func43, Try.ntmps43
    go_wp2_with fail
    go_ret
    refine ⟨_, rfl, ?_⟩
    have h := HX.out
    rw [hn] at h
    exact h
  | some a =>
    have h0 := (Hp.start w).put 29 []
    have HS0 : Hid (Hp w [.sl (.slice (some ⟨w.heap.size, 0, none⟩) 0 0) 29 4 0 []] (w.alloc (.cells #[] 29))) :=
      (Hp.start w).addown ((Below.refl _ _).alloc (Nat.le_refl _) _) ⟨by simp, .inr ⟨w.heap.size, 0, #[], rfl, Nat.le_refl _, heap_alloc_last w _, Nat.le_refl _, Nat.zero_le _, by simp, by simp⟩⟩
    clear h0 h1 h2 h3 h4 h5
    go_enter Try.func43, Try.ntmps43
    go_wp2_with (first | ((with_reducible refine wpList_append_sl (HS0.out) (.tmp 5) (.tmp 6) 23 0 (v := .slice (some ⟨w.heap.size, 0, none⟩) 0 0) (n := 0) (xs := []) ?_ (xv := .slice (some a) l.length cap) (m := l.length) (ys := grRow l) (R := R) ?_ ?_ HUT.out elem_gr ?_ ?_ ?_ ?_ ?_); (exact rfl); (exact HV.out); (exact HR.out.below HS0.out.old); (exact rfl); (exact rfl); (exact (one_grs _)); (exact (by have := HL.out; omega))))
    intro v1 w1 hs
    have hs2 : Hp w [.sl v1 29 4 (0 + l.length) ([] ++ grRow l)] w1 := hs
    clear hs HS0
    rw [Nat.zero_add, List.nil_append] at hs2
    have HA := Lib.hid hs2
    clear hs2
    go_wp2_with fail
    go_ret
    exact ⟨_, rfl, HA.out.old, HA.out.own 0 rfl⟩
end Go.Proofs.Ytcnaalbpbalgdaa
