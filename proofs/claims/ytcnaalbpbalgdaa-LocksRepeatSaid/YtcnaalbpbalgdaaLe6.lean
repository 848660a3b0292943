/- texts of a claim, one after the other: the program's Request (locks), the example of chapter 8, reckoned, faults and devices as values, and what the functions of chapter 4 answer, the walk of the reference's Copy, the choices of the drawing package: Data, the choices of the drawing package: Bytes, the walks of the reference's blanks and New, the choices of a law's walk, as a thing, the choices of the drawing package: how many are left, the choices of the drawing package, with how many are left: Int, Fault, within a drawing function: things in new memory beside choices that were there before, the choices of the drawing package: Grant -/
import Derived.Test.YtcnaalbpbalgdaaLe1
import Derived.Test.YtcnaalbpbalgdaaLe5
import Derived.Deep.CutBlock
import Derived.DeepKeys
import Derived.WalkKit
import Derived.Deep.RegionWith
import Derived.Test.YtcnaalbpbalgdaaLe2
/- the program's Request (locks) -/
namespace Go.Proofs.Ytcnaalbpbalgdaa
open Go.RowKit
open Go.Act renaming put → z0
open List renaming setIfInBounds_toArray → z1, set_cons_zero → z2, set_cons_succ → z3
set_option maxRecDepth 20000
set_option linter.unusedSimpArgs false
set_option linter.unusedVariables false

theorem added_ins (t : Tb) (g : Gr) : addedR t g = ⟨t.held, insG t.wait (wplaceR t.held t.wait g) g⟩ := rfl
theorem settle_mode {t : Tb} (h : TbIn t) {g : Gr} (hg : g ∈ t.wait) : (modeG (settleR t).held g == g.mode) = decide (g.mode ≤ modeG (settleR t).held g) := by
 rcases settle_keeps h hg with h1 | h1
 ·have h2 := ((settle_in h).wait.ok g h1).2
  have e1 : (modeG (settleR t).held g == g.mode) = false := by rw [beq_eq_false_iff_ne]; omega
  rw [e1, decide_eq_false (by omega)]
 ·have e1 : (modeG (settleR t).held g == g.mode) = true := by rw [beq_iff_eq]; exact h1
  rw [e1, decide_eq_true (by omega)]
theorem mem_insG (l : List Gr) (i : Nat) (g : Gr) : g ∈ insG l i g := by unfold insG; simp
abbrev qPk14_0 : Oper := { dst := some 37, op := Op.fieldAddr 25 (Operand.tmp 2) 0, type := 0, pos := "locks.go:158", after := #[], guard := none }
abbrev qPk14_1 : Oper := { dst := some 38, op := Op.load 23 (Operand.tmp 37), type := 23, pos := "locks.go:158", after := #[{ on := 0, ground := Ground.data }], guard := none }
abbrev qPk14_2 : Oper := { dst := some 39, op := Op.fieldAddr 29 (Operand.tmp 3) 0, type := 0, pos := "locks.go:158", after := #[], guard := none }
abbrev qPk14_3 : Oper := { dst := some 40, op := Op.load 3 (Operand.tmp 39), type := 3, pos := "locks.go:158", after := #[{ on := 2, ground := Ground.data }], guard := none }
abbrev qPk14_4 : Oper := { dst := some 41, op := Op.fieldAddr 29 (Operand.tmp 3) 1, type := 0, pos := "locks.go:158", after := #[], guard := none }
abbrev qPk14_5 : Oper := { dst := some 42, op := Op.load 27 (Operand.tmp 41), type := 27, pos := "locks.go:158", after := #[{ on := 4, ground := Ground.data }], guard := none }
abbrev qPk14_6 : Oper := { dst := some 44, op := Op.fieldAddr 29 (Operand.tmp 3) 2, type := 0, pos := "locks.go:158", after := #[], guard := none }
abbrev qPk14_7 : Oper := { dst := some 45, op := Op.load 3 (Operand.tmp 44), type := 3, pos := "locks.go:158", after := #[{ on := 7, ground := Ground.data }], guard := none }
abbrev qPk14_8 : Oper := { dst := some 43, op := Op.call { callee := Callee.value (Operand.func 41), args := #[Operand.tmp 38, Operand.tmp 40, Operand.tmp 42], argTypes := #[23, 3, 27] }, type := 3, pos := "locks.go:158", after := #[{ on := 1, ground := Ground.data }, { on := 3, ground := Ground.data }, { on := 5, ground := Ground.data }], guard := none }
abbrev qPk14_9 : Oper := { dst := some 46, op := Op.binOp BinOp.geq 3 (Operand.tmp 43) (Operand.tmp 45) 3, type := 4, pos := "locks.go:158", after := #[{ on := 6, ground := Ground.data }, { on := 8, ground := Ground.data }], guard := none }
abbrev qPk14_10 : Oper := { dst := some 36, op := Op.assign (Operand.tmp 46), type := 4, pos := "locks.go:158", after := #[{ on := 9, ground := Ground.data }, { on := 6, ground := Ground.chain }], guard := none }
abbrev qPk14_11 : Oper := { dst := some 53, op := Op.fieldAddr 25 (Operand.tmp 2) 1, type := 0, pos := "locks.go:163", after := #[], guard := none }
abbrev qPk14_12 : Oper := { dst := some 57, op := Op.load 29 (Operand.tmp 3), type := 29, pos := "locks.go:163", after := #[], guard := none }
abbrev qPk14_13 : Oper := { dst := some 59, op := Op.load 29 (Operand.tmp 3), type := 29, pos := "locks.go:163", after := #[], guard := none }
abbrev qPk14_14 : Oper := { dst := some 54, op := Op.load 23 (Operand.tmp 53), type := 23, pos := "locks.go:163", after := #[{ on := 0, ground := Ground.data }], guard := none }
abbrev qPk14_15 : Oper := { dst := some 56, op := Op.load 25 (Operand.tmp 2), type := 25, pos := "locks.go:163", after := #[], guard := none }
abbrev qPk14_16 : Oper := { dst := some 60, op := Op.buildSlice 23 1 #[(0, Operand.tmp 59)], type := 23, pos := "locks.go:163", after := #[{ on := 6, ground := Ground.data }], guard := none }
abbrev qPk14_17 : Oper := { dst := some 55, op := Op.call { callee := Callee.value (Operand.func 43), args := #[Operand.tmp 54], argTypes := #[23] }, type := 23, pos := "locks.go:163", after := #[{ on := 1, ground := Ground.data }], guard := none }
abbrev qPk14_18 : Oper := { dst := some 58, op := Op.call { callee := Callee.value (Operand.func 44), args := #[Operand.tmp 56, Operand.tmp 57], argTypes := #[25, 29] }, type := 3, pos := "locks.go:163", after := #[{ on := 3, ground := Ground.data }, { on := 4, ground := Ground.data }, { on := 2, ground := Ground.chain }], guard := none }
abbrev qPk14_19 : Oper := { dst := some 61, op := Op.call { callee := Callee.value (Operand.func 42), args := #[Operand.tmp 55, Operand.tmp 58, Operand.tmp 60], argTypes := #[23, 3, 23] }, type := 23, pos := "locks.go:163", after := #[{ on := 2, ground := Ground.data }, { on := 5, ground := Ground.data }, { on := 7, ground := Ground.data }, { on := 5, ground := Ground.chain }], guard := none }
abbrev qPk14_20 : Oper := { dst := some 62, op := Op.fieldAddr 25 (Operand.tmp 2) 1, type := 0, pos := "locks.go:163", after := #[{ on := 0, ground := Ground.phase }, { on := 1, ground := Ground.phase }, { on := 2, ground := Ground.phase }, { on := 3, ground := Ground.phase }, { on := 4, ground := Ground.phase }, { on := 5, ground := Ground.phase }, { on := 6, ground := Ground.phase }, { on := 7, ground := Ground.phase }, { on := 8, ground := Ground.phase }], guard := none }
abbrev qPk14_21 : Oper := { dst := none, op := Op.store 23 (Operand.tmp 62) (Operand.tmp 61), type := 0, pos := "locks.go:163", after := #[{ on := 9, ground := Ground.data }, { on := 8, ground := Ground.data }, { on := 8, ground := Ground.chain }, { on := 0, ground := Ground.phase }, { on := 1, ground := Ground.phase }, { on := 2, ground := Ground.phase }, { on := 3, ground := Ground.phase }, { on := 4, ground := Ground.phase }, { on := 5, ground := Ground.phase }, { on := 6, ground := Ground.phase }, { on := 7, ground := Ground.phase }, { on := 8, ground := Ground.phase }], guard := none }
abbrev qPk14_22 : Oper := { dst := some 65, op := Op.load 25 (Operand.tmp 2), type := 25, pos := "locks.go:165", after := #[], guard := none }
abbrev qPk14_23 : Oper := { dst := some 66, op := Op.fieldAddr 25 (Operand.tmp 2) 0, type := 0, pos := "locks.go:165", after := #[], guard := none }
abbrev qPk14_24 : Oper := { dst := some 67, op := Op.load 23 (Operand.tmp 66), type := 23, pos := "locks.go:165", after := #[{ on := 1, ground := Ground.data }], guard := none }
abbrev qPk14_25 : Oper := { dst := some 68, op := Op.fieldAddr 29 (Operand.tmp 3) 0, type := 0, pos := "locks.go:165", after := #[], guard := none }
abbrev qPk14_26 : Oper := { dst := some 69, op := Op.load 3 (Operand.tmp 68), type := 3, pos := "locks.go:165", after := #[{ on := 3, ground := Ground.data }], guard := none }
abbrev qPk14_27 : Oper := { dst := some 70, op := Op.fieldAddr 29 (Operand.tmp 3) 1, type := 0, pos := "locks.go:165", after := #[], guard := none }
abbrev qPk14_28 : Oper := { dst := some 71, op := Op.load 27 (Operand.tmp 70), type := 27, pos := "locks.go:165", after := #[{ on := 5, ground := Ground.data }], guard := none }
abbrev qPk14_29 : Oper := { dst := some 73, op := Op.fieldAddr 29 (Operand.tmp 3) 2, type := 0, pos := "locks.go:165", after := #[{ on := 11, ground := Ground.gcOnly Departure.lateStores }], guard := none }
abbrev qPk14_30 : Oper := { dst := some 74, op := Op.load 3 (Operand.tmp 73), type := 3, pos := "locks.go:165", after := #[{ on := 8, ground := Ground.data }, { on := 11, ground := Ground.gcOnly Departure.lateStores }], guard := none }
abbrev qPk14_31 : Oper := { dst := some 72, op := Op.call { callee := Callee.value (Operand.func 41), args := #[Operand.tmp 67, Operand.tmp 69, Operand.tmp 71], argTypes := #[23, 3, 27] }, type := 3, pos := "locks.go:165", after := #[{ on := 2, ground := Ground.data }, { on := 4, ground := Ground.data }, { on := 6, ground := Ground.data }], guard := none }
abbrev qPk14_32 : Oper := { dst := some 75, op := Op.binOp BinOp.eql 3 (Operand.tmp 72) (Operand.tmp 74) 3, type := 4, pos := "locks.go:165", after := #[{ on := 7, ground := Ground.data }, { on := 9, ground := Ground.data }, { on := 11, ground := Ground.gcOnly Departure.lateStores }], guard := none }
abbrev qPk14_33 : Oper := { dst := none, op := Op.store 25 (Operand.tmp 4) (Operand.tmp 65), type := 0, pos := "locks.go:165", after := #[{ on := 0, ground := Ground.data }, { on := 7, ground := Ground.chain }, { on := 0, ground := Ground.phase }, { on := 1, ground := Ground.textOnly Departure.lateStores }, { on := 2, ground := Ground.textOnly Departure.lateStores }, { on := 3, ground := Ground.textOnly Departure.lateStores }, { on := 4, ground := Ground.textOnly Departure.lateStores }, { on := 5, ground := Ground.textOnly Departure.lateStores }, { on := 6, ground := Ground.textOnly Departure.lateStores }, { on := 7, ground := Ground.textOnly Departure.lateStoresUnsure }, { on := 8, ground := Ground.textOnly Departure.lateStores }, { on := 9, ground := Ground.textOnly Departure.lateStores }, { on := 10, ground := Ground.textOnly Departure.lateStores }], guard := none }
abbrev qPk14_34 : Oper := { dst := some 5, op := Op.assign (Operand.tmp 75), type := 4, pos := "locks.go:165", after := #[{ on := 10, ground := Ground.data }, { on := 11, ground := Ground.chain }, { on := 0, ground := Ground.phase }, { on := 1, ground := Ground.phase }, { on := 2, ground := Ground.phase }, { on := 3, ground := Ground.phase }, { on := 4, ground := Ground.phase }, { on := 5, ground := Ground.phase }, { on := 6, ground := Ground.phase }, { on := 7, ground := Ground.phase }, { on := 8, ground := Ground.phase }, { on := 9, ground := Ground.phase }, { on := 10, ground := Ground.phase }, { on := 11, ground := Ground.phase }], guard := none }
abbrev qPk14_35 : Oper := { dst := some 6, op := Op.assign (Operand.const (Value.int IntKind.i64 0)), type := 40, pos := "locks.go:165", after := #[{ on := 12, ground := Ground.chain }, { on := 0, ground := Ground.phase }, { on := 1, ground := Ground.phase }, { on := 2, ground := Ground.phase }, { on := 3, ground := Ground.phase }, { on := 4, ground := Ground.phase }, { on := 5, ground := Ground.phase }, { on := 6, ground := Ground.phase }, { on := 7, ground := Ground.phase }, { on := 8, ground := Ground.phase }, { on := 9, ground := Ground.phase }, { on := 10, ground := Ground.phase }, { on := 11, ground := Ground.phase }, { on := 12, ground := Ground.phase }], guard := none }
set_option maxHeartbeats 16000000 in
theorem prequest_any {h v : Value} {t : Tb} {R : List Rng} (g : Gr) (w : World) (ht : TbRd h v t R) (hR : RdIn w R) (hg : GoodTb t) (hk : GoodGr g) :
  Calls Try.prog 17 #[.agg (tbCells h v).toArray, .agg (grCells g).toArray] w (TbPost3 w R (requestR t g)) := by
 obtain ⟨a, cap, rfl, hnc, hcm⟩ := ht.1.shape
 obtain ⟨a2, cap2, rfl, hnc2, hcm2⟩ := ht.2.shape
 have HT := Lib.hid ht
 have HR := Lib.hid hR
 have HK := Lib.hid hk
 have HGo := Lib.hid hg
 have HUX := Lib.hid under_grs
 have HVa : Hid (∀ W, Below w.heap.size w W → Calls Try.prog 12 #[.agg (tbCells (.slice a t.held.length cap) (.slice a2 t.wait.length cap2)).toArray] W fun e w' => e = .returned (.bool (tbOkB t)) ∧ Below W.heap.size W w') := fun W hb => plkvalid_any W ht (hR.below hb) hg
 have HGr : Hid (∀ W, Calls Try.prog 40 #[.agg (grCells g).toArray] W fun e w' => e = .returned (.bool (grOkB g)) ∧ Below W.heap.size W w') := fun W => pgrant_any g W
 have HWa : Hid (tbOkB t = true → ∀ W, Below w.heap.size w W → Calls Try.prog 39 #[.agg (tbCells (.slice a t.held.length cap) (.slice a2 t.wait.length cap2)).toArray, .int .i64 g.tx] W fun e w' => e = .returned (.tuple #[.agg (grCells (waitR t g.tx).1).toArray, .bool (waitR t g.tx).2]) ∧ Below W.heap.size W w') := fun h W hb => by
  rw [waitR_of (tbOkB_iff.1 h)]
  exact pwaiting_any g.tx W ht (hR.below hb) hg
 have HMo : Hid (tbOkB t = true → ∀ W, Below w.heap.size w W → Calls Try.prog 41 #[.slice a t.held.length cap, .int .i64 g.tx, .agg (lkCells g.lock).toArray] W fun e w' => e = .returned (.int .i64 (modeG t.held g)) ∧ Below W.heap.size W w') := fun h W hb => pmode_any g.tx g.lock t.held _ R W (tbOkB_iff.1 h).tin.held.up ht.1 (hR.below hb) (by have := hg.few; omega)
 have HSz : Hid (∀ W, Calls Try.prog 32 #[.agg (tbCells (.slice a t.held.length cap) (.slice a2 t.wait.length cap2)).toArray] W fun e w' => e = .returned (.int .i64 ((t.held.length : Int) + (t.wait.length : Int))) ∧ Below W.heap.size W w') := fun W => size_any W ht hg
 have HTu : Hid (tbOkB t = true → ∀ W, Below w.heap.size w W → Calls Try.prog 44 #[.agg (tbCells (.slice a t.held.length cap) (.slice a2 t.wait.length cap2)).toArray, .agg (grCells g).toArray] W fun e w' => e = .returned (.int .i64 (wplaceR t.held t.wait g : Nat)) ∧ Below W.heap.size W w') := fun h W hb => turn_any g W ht (hR.below hb) hg hk (tbOkB_iff.1 h).tin.held
 have HCl : Hid (∀ W, Below w.heap.size w W → Calls Try.prog 43 #[.slice a2 t.wait.length cap2] W fun e w' => ∃ u, e = .returned u ∧ Below W.heap.size W w' ∧ w'.ownsRow W.heap.size 29 4 u t.wait.length (grRow t.wait)) := fun W hb => cloneG_any t.wait _ R W ht.2 (hR.below hb) (by have := hg.few; omega)
 have HGw := Lib.hid (waitR_good hg g.tx)
 have HLen : Hid (tbOkB t = true → t.held.length + t.wait.length ≤ 1024) := fun h => (tbOkB_iff.1 h).few
 have HAd : Hid (tbOkB t = true → grOkB g = true → (waitR t g.tx).2 = false → ¬ g.mode ≤ modeG t.held g → TbIn (addedR t g)) := fun h1 h2 h3 h4 => by
  have hok := tbOkB_iff.1 h1
  rw [waitR_of hok] at h3
  refine added_in hok (grOkB_iff.1 h2) (wfind_none ?_) (by omega)
  simpa using h3
 have HD : Hid (requestR t g = if tbOkB t = false then (tbNil, false, 17)
  else if grOkB g = false then (tbNil, false, 1)
  else if (waitR t g.tx).2 = true then (if grEqB (waitR t g.tx).1 g = true then (t, false, 0) else (tbNil, false, 15))
  else if g.mode ≤ modeG t.held g then (t, true, 0)
  else if t.held.length + t.wait.length = 1024 then (tbNil, false, 21)
  else (settleR (addedR t g), decide (g.mode ≤ modeG (settleR (addedR t g)).held g), 0)) := rfl
 clear ht hg hk
 have h1 := (((Hp.startrd w R hR).put 25 (tbCells (.slice a t.held.length cap) (.slice a2 t.wait.length cap2))).put 29 (grCells g)).put 25 (tbCells (.slice none 0 0) (.slice none 0 0))
 simp only [World.size_alloc, List.nil_append, List.cons_append] at h1
 have h2 := h1.pull [1, 2, 3, 0] (M := [.ob w.heap.size 25 (tbCells (.slice a t.held.length cap) (.slice a2 t.wait.length cap2)), .ob (w.heap.size + 1) 29 (grCells g), .ob (w.heap.size + 1 + 1) 25 (tbCells (.slice none 0 0) (.slice none 0 0)), .rd R]) rfl (pull_nd h1.nd [1, 2, 3, 0] rfl (by decide))
 have HS0 : Hid (Hp w [.ob w.heap.size 25 (tbCells (.slice a t.held.length cap) (.slice a2 t.wait.length cap2)), .ob (w.heap.size + 1) 29 (grCells g), .ob (w.heap.size + 1 + 1) 25 (tbCells (.slice none 0 0) (.slice none 0 0)), .rd R] (((w.alloc (.cells (tbCells (.slice a t.held.length cap) (.slice a2 t.wait.length cap2)).toArray 25)).alloc (.cells (grCells g).toArray 29)).alloc (.cells #[.slice none 0 0, .slice none 0 0] 25))) := h2
 clear h1 h2 hR
 obtain ⟨fsHUG, huHUG⟩ := under_gr
 have HUG := Lib.hid huHUG
 clear huHUG
 obtain ⟨fsHUK, huHUK⟩ := under_lk
 have HUK := Lib.hid huHUK
 clear huHUK
 obtain ⟨fsHUT, huHUT⟩ := under_tb
 have HUT := Lib.hid huHUT
 clear huHUT
 generalize tbOkB t = ok at *
 generalize grOkB g = gk at *
 generalize modeG t.held g = mo at *
 obtain ⟨wx, wb, hwx⟩ : ∃ wx wb, waitR t g.tx = (wx, wb) := ⟨_, _, rfl⟩
 rw [hwx] at HWa HGw HAd HD
 clear hwx
 simp only at HWa HGw HAd HD
 obtain ⟨rq, hrq⟩ : ∃ rq, requestR t g = rq := ⟨_, rfl⟩
 rw [hrq] at HD
 rw [hrq]
 clear hrq
 go_enter Try.func17, Try.ntmps17
 go_upto_region 1 with (fail)
 generalize (((w.alloc (.cells (tbCells (.slice a t.held.length cap) (.slice a2 t.wait.length cap2)).toArray 25)).alloc (.cells (grCells g).toArray 29)).alloc (.cells #[.slice none 0 0, .slice none 0 0] 25)) = w1 at *
 generalize w.heap.size + 1 + 1 = b4 at *
 generalize w.heap.size + 1 = b3 at *
 go_wp2_with (first | ((with_reducible refine wpList_load_ob 25 (.tmp 2) (w.heap.size) (tbCells (.slice a t.held.length cap) (.slice a2 t.wait.length cap2)) 25 HUT.out ?_ ?_ ?_ ?_ ?_); (exact rfl); (exact (HS0.out).get 0 rfl); (exact rfl); (exact info_tb); simp only [Act.put, List.setIfInBounds_toArray, List.set_cons_zero, List.set_cons_succ]))
 refine (HVa.out _ (HS0.out).old).mono ?_
 rintro e w41 ⟨rfl, hb⟩
 have HS41 := Lib.hid ((HS0.out).calls hb)
 clear hb
 clear HS0
 clear HVa
 cases ok
 ·skip
  go_wp2_with (first | ((with_reducible refine wpList_build_v (d := some 12) 25 (.agg (tbCells (.slice none 0 0) (.slice none 0 0)).toArray) ?_ ?_); (intro W; simp only [List.map_toArray, List.map_cons, List.map_nil]; exact build_tb0 W); simp only [Act.put, List.setIfInBounds_toArray, List.set_cons_zero, List.set_cons_succ]) | ((with_reducible refine wpList_store_ob 25 (.tmp 4) b4 (tbCells (.slice none 0 0) (.slice none 0 0)) (tbCells (.slice none 0 0) (.slice none 0 0)) 25 ?_ ?_ ?_ ?_ ?_ ?_ ?_); (exact rfl); (exact rfl); (exact (HS41.out).get 2 rfl); (exact info_tb); (exact rfl); (exact (oneCell_tb _ _ _ _ _ _)); skip))
  have HS67 : Hid (Hp w [.ob (w.heap.size) 25 (tbCells (.slice a t.held.length cap) (.slice a2 t.wait.length cap2)), .ob b3 29 (grCells g), .ob b4 25 (tbCells (.slice none 0 0) (.slice none 0 0)), .rd R] (w41.setRow b4 (tbCells (.slice none 0 0) (.slice none 0 0)).toArray)) := (HS41.out).row 2 rfl (tbCells (.slice none 0 0) (.slice none 0 0))
  clear HS41
  generalize (w41.setRow b4 (tbCells (.slice none 0 0) (.slice none 0 0)).toArray) = w67 at *
  refine bodyPost_ret (results_ob_tmp2 Try.results17 _ _ b4 (tbCells (.slice none 0 0) (.slice none 0 0)) 25 _ rfl ((HS67.out).get 2 rfl) HUT.out rfl info_tb) rfl ?_
  exact TbPost3.none (by rw [HD.out]; rfl) (HS67.out).old
 have HLn : Hid (t.held.length + t.wait.length ≤ 1024) := Lib.hid (HLen.out (by first | trivial | rfl))
 have HWa1 := Lib.hid (HWa.out (by first | trivial | rfl))
 have HMo1 := Lib.hid (HMo.out (by first | trivial | rfl))
 have HTu1 := Lib.hid (HTu.out (by first | trivial | rfl))
 clear HWa HMo HTu HLen
 have g0 : w41.cell? ⟨b3, 0, none⟩ = some (.int .i64 g.tx) := HS41.out.at 1 rfl 0 rfl
 have g1 : w41.cell? ⟨b3, 1, none⟩ = some (.int .i64 g.page) := HS41.out.at 1 rfl 1 rfl
 have g2 : w41.cell? ⟨b3, 2, none⟩ = some (.int .i64 g.slot) := HS41.out.at 1 rfl 2 rfl
 have g3 : w41.cell? ⟨b3, 3, none⟩ = some (.int .i64 g.mode) := HS41.out.at 1 rfl 3 rfl
 go_wp2_with (first | ((with_reducible refine wpList_load_ob 25 (.tmp 2) (w.heap.size) (tbCells (.slice a t.held.length cap) (.slice a2 t.wait.length cap2)) 25 HUT.out ?_ ?_ ?_ ?_ ?_); (exact rfl); (exact (HS41.out).get 0 rfl); (exact rfl); (exact info_tb); simp only [Act.put, List.setIfInBounds_toArray, List.set_cons_zero, List.set_cons_succ]))
 refine (HWa1.out _ (HS41.out).old).mono ?_
 rintro e w87 ⟨rfl, hb⟩
 have HS87 := Lib.hid ((HS41.out).calls hb)
 clear hb
 clear HS41
 go_upto_region 4 with (first | ((with_reducible refine wpList_alloc_ob 29 (grCells grNil) ?_ ?_); (exact alloc_gr); simp only [Act.put, List.setIfInBounds_toArray, List.set_cons_zero, List.set_cons_succ]) | ((with_reducible refine wpList_store_ob 29 (.tmp 7) (w87.heap.size) (grCells wx) (grCells grNil) 29 ?_ ?_ ?_ ?_ ?_ ?_ ?_); (exact rfl); (exact rfl); (exact ((HS87.out).put 29 (grCells grNil)).get 4 rfl); (exact info_gr); (exact rfl); (exact (oneCell_gr _)); skip))
 have HS88 : Hid (Hp w [.ob (w.heap.size) 25 (tbCells (.slice a t.held.length cap) (.slice a2 t.wait.length cap2)), .ob b3 29 (grCells g), .ob b4 25 (tbCells (.slice none 0 0) (.slice none 0 0)), .rd R, .ob (w87.heap.size) 29 (grCells wx)] ((w87.alloc (.cells (grCells grNil).toArray 29)).setRow (w87.heap.size) (grCells wx).toArray)) := ((HS87.out).put 29 (grCells grNil)).row 4 rfl (grCells wx)
 clear g0 g1 g2 g3 HWa1
 clear HS87
 generalize ((w87.alloc (.cells (grCells grNil).toArray 29)).setRow (w87.heap.size) (grCells wx).toArray) = w88 at *
 generalize w87.heap.size = B87 at *
 go_wp2_with (first | ((with_reducible refine wpList_load_ob 29 (.tmp 3) b3 (grCells g) 29 HUG.out ?_ ?_ ?_ ?_ ?_); (exact rfl); (exact (HS88.out).get 1 rfl); (exact rfl); (exact info_gr); simp only [Act.put, List.setIfInBounds_toArray, List.set_cons_zero, List.set_cons_succ]))
 refine (HGr.out _).mono ?_
 rintro e w114 ⟨rfl, hb⟩
 have HS114 := Lib.hid ((HS88.out).calls hb)
 clear hb
 clear HS88
 clear HGr
 cases gk
 ·skip
  go_wp2_with (first | ((with_reducible refine wpList_build_v (d := some 24) 25 (.agg (tbCells (.slice none 0 0) (.slice none 0 0)).toArray) ?_ ?_); (intro W; simp only [List.map_toArray, List.map_cons, List.map_nil]; exact build_tb0 W); simp only [Act.put, List.setIfInBounds_toArray, List.set_cons_zero, List.set_cons_succ]) | ((with_reducible refine wpList_store_ob 25 (.tmp 4) b4 (tbCells (.slice none 0 0) (.slice none 0 0)) (tbCells (.slice none 0 0) (.slice none 0 0)) 25 ?_ ?_ ?_ ?_ ?_ ?_ ?_); (exact rfl); (exact rfl); (exact (HS114.out).get 2 rfl); (exact info_tb); (exact rfl); (exact (oneCell_tb _ _ _ _ _ _)); skip))
  have HS140 : Hid (Hp w [.ob (w.heap.size) 25 (tbCells (.slice a t.held.length cap) (.slice a2 t.wait.length cap2)), .ob b3 29 (grCells g), .ob b4 25 (tbCells (.slice none 0 0) (.slice none 0 0)), .rd R, .ob B87 29 (grCells wx)] (w114.setRow b4 (tbCells (.slice none 0 0) (.slice none 0 0)).toArray)) := (HS114.out).row 2 rfl (tbCells (.slice none 0 0) (.slice none 0 0))
  clear HS114
  generalize (w114.setRow b4 (tbCells (.slice none 0 0) (.slice none 0 0)).toArray) = w140 at *
  refine bodyPost_ret (results_ob_tmp2 Try.results17 _ _ b4 (tbCells (.slice none 0 0) (.slice none 0 0)) 25 _ rfl ((HS140.out).get 2 rfl) HUT.out rfl info_tb) rfl ?_
  exact TbPost3.none (by rw [HD.out]; rfl) (HS140.out).old
 cases wb
 case true =>
  have hqe : ∀ W, Sem.run Try.prog (binOp .neq 29 (.agg (grCells wx).toArray) (.agg (grCells g).toArray)) W = .ok (.bool (!sameV wx g)) W := fun W => run_neq (equal_gr wx g HGw.out HK.out) W
  have hsm := grEq_same wx g
  simp only [grCells] at hqe
  have x0 : w114.cell? ⟨B87, 0, none⟩ = some (.int .i64 wx.tx) := HS114.out.at 4 rfl 0 rfl
  have x1 : w114.cell? ⟨B87, 1, none⟩ = some (.int .i64 wx.page) := HS114.out.at 4 rfl 1 rfl
  have x2 : w114.cell? ⟨B87, 2, none⟩ = some (.int .i64 wx.slot) := HS114.out.at 4 rfl 2 rfl
  have x3 : w114.cell? ⟨B87, 3, none⟩ = some (.int .i64 wx.mode) := HS114.out.at 4 rfl 3 rfl
  have g0 : w114.cell? ⟨b3, 0, none⟩ = some (.int .i64 g.tx) := HS114.out.at 1 rfl 0 rfl
  have g1 : w114.cell? ⟨b3, 1, none⟩ = some (.int .i64 g.page) := HS114.out.at 1 rfl 1 rfl
  have g2 : w114.cell? ⟨b3, 2, none⟩ = some (.int .i64 g.slot) := HS114.out.at 1 rfl 2 rfl
  have g3 : w114.cell? ⟨b3, 3, none⟩ = some (.int .i64 g.mode) := HS114.out.at 1 rfl 3 rfl
  cases hsv : sameV wx g
  ·have HE : Hid (rq = (tbNil, false, 15)) := Lib.hid (by rw [hsv] at hsm; rw [HD.out, ← hsm]; simp)
   rw [hsv] at hqe
   clear hsv hsm
   go_upto_region 7 with (fail)
   clear x0 x1 x2 x3 g0 g1 g2 g3 hqe
   go_wp2_with (first | ((with_reducible refine wpList_build_v (d := some 32) 25 (.agg (tbCells (.slice none 0 0) (.slice none 0 0)).toArray) ?_ ?_); (intro W; simp only [List.map_toArray, List.map_cons, List.map_nil]; exact build_tb0 W); simp only [Act.put, List.setIfInBounds_toArray, List.set_cons_zero, List.set_cons_succ]) | ((with_reducible refine wpList_store_ob 25 (.tmp 4) b4 (tbCells (.slice none 0 0) (.slice none 0 0)) (tbCells (.slice none 0 0) (.slice none 0 0)) 25 ?_ ?_ ?_ ?_ ?_ ?_ ?_); (exact rfl); (exact rfl); (exact (HS114.out).get 2 rfl); (exact info_tb); (exact rfl); (exact (oneCell_tb _ _ _ _ _ _)); skip))
   have HS160 : Hid (Hp w [.ob (w.heap.size) 25 (tbCells (.slice a t.held.length cap) (.slice a2 t.wait.length cap2)), .ob b3 29 (grCells g), .ob b4 25 (tbCells (.slice none 0 0) (.slice none 0 0)), .rd R, .ob B87 29 (grCells wx)] (w114.setRow b4 (tbCells (.slice none 0 0) (.slice none 0 0)).toArray)) := (HS114.out).row 2 rfl (tbCells (.slice none 0 0) (.slice none 0 0))
   clear HS114
   generalize (w114.setRow b4 (tbCells (.slice none 0 0) (.slice none 0 0)).toArray) = w160 at *
   refine bodyPost_ret (results_ob_tmp2 Try.results17 _ _ b4 (tbCells (.slice none 0 0) (.slice none 0 0)) 25 _ rfl ((HS160.out).get 2 rfl) HUT.out rfl info_tb) rfl ?_
   exact TbPost3.none (by exact HE.out) (HS160.out).old
  ·have HE : Hid (rq = (t, false, 0)) := Lib.hid (by rw [hsv] at hsm; rw [HD.out, ← hsm]; simp)
   rw [hsv] at hqe
   clear hsv hsm
   go_upto_region 9 with (fail)
   clear x0 x1 x2 x3 g0 g1 g2 g3 hqe
   go_wp2_with (first | ((with_reducible refine wpList_load_ob 25 (.tmp 2) (w.heap.size) (tbCells (.slice a t.held.length cap) (.slice a2 t.wait.length cap2)) 25 HUT.out ?_ ?_ ?_ ?_ ?_); (exact rfl); (exact (HS114.out).get 0 rfl); (exact rfl); (exact info_tb); simp only [Act.put, List.setIfInBounds_toArray, List.set_cons_zero, List.set_cons_succ]) | ((with_reducible refine wpList_store_ob 25 (.tmp 4) b4 (tbCells (.slice a t.held.length cap) (.slice a2 t.wait.length cap2)) (tbCells (.slice none 0 0) (.slice none 0 0)) 25 ?_ ?_ ?_ ?_ ?_ ?_ ?_); (exact rfl); (exact rfl); (exact (HS114.out).get 2 rfl); (exact info_tb); (exact rfl); (exact (oneCell_tb _ _ _ _ _ _)); skip))
   have HS180 : Hid (Hp w [.ob (w.heap.size) 25 (tbCells (.slice a t.held.length cap) (.slice a2 t.wait.length cap2)), .ob b3 29 (grCells g), .ob b4 25 (tbCells (.slice a t.held.length cap) (.slice a2 t.wait.length cap2)), .rd R, .ob B87 29 (grCells wx)] (w114.setRow b4 (tbCells (.slice a t.held.length cap) (.slice a2 t.wait.length cap2)).toArray)) := (HS114.out).row 2 rfl (tbCells (.slice a t.held.length cap) (.slice a2 t.wait.length cap2))
   clear HS114
   generalize (w114.setRow b4 (tbCells (.slice a t.held.length cap) (.slice a2 t.wait.length cap2)).toArray) = w180 at *
   refine bodyPost_ret (results_ob_tmp2 Try.results17 _ _ b4 (tbCells (.slice a t.held.length cap) (.slice a2 t.wait.length cap2)) 25 _ rfl ((HS180.out).get 2 rfl) HUT.out rfl info_tb) rfl ?_
   exact TbPost3.same (by exact HE.out) HT.out HR.out (HS180.out).old
 case false =>
  have HAd2 := Lib.hid (fun h => HAd.out (by first | trivial | rfl) (by first | trivial | rfl) (by first | trivial | rfl) h)
  have HD2 : Hid (rq = if g.mode ≤ mo then (t, true, 0) else if t.held.length + t.wait.length = 1024 then (tbNil, false, 21) else (settleR (addedR t g), decide (g.mode ≤ modeG (settleR (addedR t g)).held g), 0)) := Lib.hid (by rw [HD.out]; simp)
  clear HD HAd
  go_upto_region 10 with (fail)
  by_cases hmo : g.mode ≤ mo
  ·have HE : Hid (rq = (t, true, 0)) := Lib.hid (by rw [HD2.out, if_pos hmo])
   have dm : decide (g.mode ≤ mo) = true := decide_eq_true hmo
   clear hmo HD2
   refine wp_region_held_drew (S := fun w' => w'.rangeAt w.heap.size 0 (tbCells (.slice a t.held.length cap) (.slice a2 t.wait.length cap2)) ∧ w'.rangeAt b3 0 (grCells g)) (by kernel_rfl) (⟨(fun j v hv => by rw [Nat.zero_add]; exact ((HS114.out).drew).at 0 rfl j hv), (fun j v hv => by rw [Nat.zero_add]; exact ((HS114.out).drew).at 1 rfl j hv)⟩) (fun hHeld => ?_)
   refine tk 0 qPk14_0 (some 37) (v := ?q801v) (Or.inl ⟨by rfl, ?q801h⟩) hHeld ?q801r
   case q801h => (intro wq hSw; clear hSw; go_simp; try with_reducible rfl)
   try simp only [z0, z1, z2, z3]
   refine tk 1 qPk14_1 (some 38) (v := .slice a t.held.length cap) (Or.inl ⟨by rfl, ?q802h⟩) hHeld ?q802r
   case q802h => (intro wq hSw; have lq := (hSw.1) 0 (.slice a t.held.length cap) rfl; simp only [Nat.zero_add] at lq; clear hSw; go_simp; try with_reducible rfl)
   try simp only [z0, z1, z2, z3]
   refine tk 2 qPk14_2 (some 39) (v := ?q803v) (Or.inl ⟨by rfl, ?q803h⟩) hHeld ?q803r
   case q803h => (intro wq hSw; clear hSw; go_simp; try with_reducible rfl)
   try simp only [z0, z1, z2, z3]
   refine tk 3 qPk14_3 (some 40) (v := .int .i64 g.tx) (Or.inl ⟨by rfl, ?q804h⟩) hHeld ?q804r
   case q804h => (intro wq hSw; have lq := (hSw.2) 0 (.int .i64 g.tx) rfl; simp only [Nat.zero_add] at lq; clear hSw; go_simp; try with_reducible rfl)
   try simp only [z0, z1, z2, z3]
   refine tk 4 qPk14_4 (some 41) (v := ?q805v) (Or.inl ⟨by rfl, ?q805h⟩) hHeld ?q805r
   case q805h => (intro wq hSw; clear hSw; go_simp; try with_reducible rfl)
   try simp only [z0, z1, z2, z3]
   refine tk 5 qPk14_5 (some 42) (yieldsIf_load_mid (by rfl) 27 (.tmp 41) rfl b3 (1) rfl (lkCells g.lock) _ (fun _ h => range_part (h.2) (mid_lk g)) HUK.out rfl (info_lk)) hHeld ?_
   try simp only [z0, z1, z2, z3]
   refine tk 7 qPk14_6 (some 44) (v := ?q807v) (Or.inl ⟨by rfl, ?q807h⟩) hHeld ?q807r
   case q807h => (intro wq hSw; clear hSw; go_simp; try with_reducible rfl)
   try simp only [z0, z1, z2, z3]
   refine tk 8 qPk14_7 (some 45) (v := .int .i64 g.mode) (Or.inl ⟨by rfl, ?q808h⟩) hHeld ?q808r
   case q808h => (intro wq hSw; have lq := (hSw.2) 3 (.int .i64 g.mode) rfl; simp only [Nat.zero_add] at lq; clear hSw; go_simp; try with_reducible rfl)
   try simp only [z0, z1, z2, z3]
   refine tn 6 qPk14_8 (fun K hK => ?_)
   go_simp
   go_wp2_with (go_at_call 41; refine (HMo1.out _ ((HS114.out).drew).old).mono ?_; rintro e w200 ⟨rfl, hb⟩)
   have HS200 := Lib.hid (((HS114.out).drew).calls hb)
   refine hK.out _ _ (⟨(fun j v hv => by rw [Nat.zero_add]; exact (HS200.out).at 0 rfl j hv), (fun j v hv => by rw [Nat.zero_add]; exact (HS200.out).at 1 rfl j hv)⟩) (fun hHeld => ?_)
   clear hK K hb
   try simp only [z0, z1, z2, z3]
   refine tk 9 qPk14_9 (some 46) (v := .bool true) (Or.inl ⟨by rfl, ?q809h⟩) hHeld ?q809r
   case q809h => (intro wq hSw; clear hSw; go_simp; try with_reducible rfl)
   try simp only [z0, z1, z2, z3]
   refine tk 10 qPk14_10 (some 36) (v := ?q810v) (Or.inl ⟨by rfl, ?q810h⟩) hHeld ?q810r
   case q810h => (intro wq hSw; clear hSw; go_simp; try with_reducible rfl)
   try simp only [z0, z1, z2, z3]
   refine wpAnyH_done (by kernel_rfl) ?_ _
   clear hHeld
   go_upto_region 11 with (fail)
   go_wp2_with (first | ((with_reducible refine wpList_load_ob 25 (.tmp 2) (w.heap.size) (tbCells (.slice a t.held.length cap) (.slice a2 t.wait.length cap2)) 25 HUT.out ?_ ?_ ?_ ?_ ?_); (exact rfl); (exact (HS200.out).get 0 rfl); (exact rfl); (exact info_tb); simp only [Act.put, List.setIfInBounds_toArray, List.set_cons_zero, List.set_cons_succ]) | ((with_reducible refine wpList_store_ob 25 (.tmp 4) b4 (tbCells (.slice a t.held.length cap) (.slice a2 t.wait.length cap2)) (tbCells (.slice none 0 0) (.slice none 0 0)) 25 ?_ ?_ ?_ ?_ ?_ ?_ ?_); (exact rfl); (exact rfl); (exact (HS200.out).get 2 rfl); (exact info_tb); (exact rfl); (exact (oneCell_tb _ _ _ _ _ _)); skip))
   have HS226 : Hid (Hp w [.ob (w.heap.size) 25 (tbCells (.slice a t.held.length cap) (.slice a2 t.wait.length cap2)), .ob b3 29 (grCells g), .ob b4 25 (tbCells (.slice a t.held.length cap) (.slice a2 t.wait.length cap2)), .rd R, .ob B87 29 (grCells wx)] (w200.setRow b4 (tbCells (.slice a t.held.length cap) (.slice a2 t.wait.length cap2)).toArray)) := (HS200.out).row 2 rfl (tbCells (.slice a t.held.length cap) (.slice a2 t.wait.length cap2))
   clear HS200
   generalize (w200.setRow b4 (tbCells (.slice a t.held.length cap) (.slice a2 t.wait.length cap2)).toArray) = w226 at *
   refine bodyPost_ret (results_ob_tmp2 Try.results17 _ _ b4 (tbCells (.slice a t.held.length cap) (.slice a2 t.wait.length cap2)) 25 _ rfl ((HS226.out).get 2 rfl) HUT.out rfl info_tb) rfl ?_
   exact TbPost3.same (by exact HE.out) HT.out HR.out (HS226.out).old
  have HD3 : Hid (rq = if t.held.length + t.wait.length = 1024 then (tbNil, false, 21) else (settleR (addedR t g), decide (g.mode ≤ modeG (settleR (addedR t g)).held g), 0)) := Lib.hid (by rw [HD2.out, if_neg hmo])
  have HIn := Lib.hid (HAd2.out (by omega))
  have dm : decide (g.mode ≤ mo) = false := decide_eq_false hmo
  clear hmo HD2 HAd2
  refine wp_region_held_drew (S := fun w' => w'.rangeAt w.heap.size 0 (tbCells (.slice a t.held.length cap) (.slice a2 t.wait.length cap2)) ∧ w'.rangeAt b3 0 (grCells g)) (by kernel_rfl) (⟨(fun j v hv => by rw [Nat.zero_add]; exact ((HS114.out).drew).at 0 rfl j hv), (fun j v hv => by rw [Nat.zero_add]; exact ((HS114.out).drew).at 1 rfl j hv)⟩) (fun hHeld => ?_)
  refine tk 0 qPk14_0 (some 37) (v := ?q901v) (Or.inl ⟨by rfl, ?q901h⟩) hHeld ?q901r
  case q901h => (intro wq hSw; clear hSw; go_simp; try with_reducible rfl)
  try simp only [z0, z1, z2, z3]
  refine tk 1 qPk14_1 (some 38) (v := .slice a t.held.length cap) (Or.inl ⟨by rfl, ?q902h⟩) hHeld ?q902r
  case q902h => (intro wq hSw; have lq := (hSw.1) 0 (.slice a t.held.length cap) rfl; simp only [Nat.zero_add] at lq; clear hSw; go_simp; try with_reducible rfl)
  try simp only [z0, z1, z2, z3]
  refine tk 2 qPk14_2 (some 39) (v := ?q903v) (Or.inl ⟨by rfl, ?q903h⟩) hHeld ?q903r
  case q903h => (intro wq hSw; clear hSw; go_simp; try with_reducible rfl)
  try simp only [z0, z1, z2, z3]
  refine tk 3 qPk14_3 (some 40) (v := .int .i64 g.tx) (Or.inl ⟨by rfl, ?q904h⟩) hHeld ?q904r
  case q904h => (intro wq hSw; have lq := (hSw.2) 0 (.int .i64 g.tx) rfl; simp only [Nat.zero_add] at lq; clear hSw; go_simp; try with_reducible rfl)
  try simp only [z0, z1, z2, z3]
  refine tk 4 qPk14_4 (some 41) (v := ?q905v) (Or.inl ⟨by rfl, ?q905h⟩) hHeld ?q905r
  case q905h => (intro wq hSw; clear hSw; go_simp; try with_reducible rfl)
  try simp only [z0, z1, z2, z3]
  refine tk 5 qPk14_5 (some 42) (yieldsIf_load_mid (by rfl) 27 (.tmp 41) rfl b3 (1) rfl (lkCells g.lock) _ (fun _ h => range_part (h.2) (mid_lk g)) HUK.out rfl (info_lk)) hHeld ?_
  try simp only [z0, z1, z2, z3]
  refine tk 7 qPk14_6 (some 44) (v := ?q907v) (Or.inl ⟨by rfl, ?q907h⟩) hHeld ?q907r
  case q907h => (intro wq hSw; clear hSw; go_simp; try with_reducible rfl)
  try simp only [z0, z1, z2, z3]
  refine tk 8 qPk14_7 (some 45) (v := .int .i64 g.mode) (Or.inl ⟨by rfl, ?q908h⟩) hHeld ?q908r
  case q908h => (intro wq hSw; have lq := (hSw.2) 3 (.int .i64 g.mode) rfl; simp only [Nat.zero_add] at lq; clear hSw; go_simp; try with_reducible rfl)
  try simp only [z0, z1, z2, z3]
  refine tn 6 qPk14_8 (fun K hK => ?_)
  go_simp
  go_wp2_with (go_at_call 41; refine (HMo1.out _ ((HS114.out).drew).old).mono ?_; rintro e w246 ⟨rfl, hb⟩)
  have HS246 := Lib.hid (((HS114.out).drew).calls hb)
  refine hK.out _ _ (⟨(fun j v hv => by rw [Nat.zero_add]; exact (HS246.out).at 0 rfl j hv), (fun j v hv => by rw [Nat.zero_add]; exact (HS246.out).at 1 rfl j hv)⟩) (fun hHeld => ?_)
  clear hK K hb
  try simp only [z0, z1, z2, z3]
  refine tk 9 qPk14_9 (some 46) (v := .bool false) (Or.inl ⟨by rfl, ?q909h⟩) hHeld ?q909r
  case q909h => (intro wq hSw; clear hSw; go_simp; try with_reducible rfl)
  try simp only [z0, z1, z2, z3]
  refine tk 10 qPk14_10 (some 36) (v := ?q910v) (Or.inl ⟨by rfl, ?q910h⟩) hHeld ?q910r
  case q910h => (intro wq hSw; clear hSw; go_simp; try with_reducible rfl)
  try simp only [z0, z1, z2, z3]
  refine wpAnyH_done (by kernel_rfl) ?_ _
  clear hHeld HMo1
  go_upto_region 12 with (fail)
  go_wp2_with (first | ((with_reducible refine wpList_load_ob 25 (.tmp 2) (w.heap.size) (tbCells (.slice a t.held.length cap) (.slice a2 t.wait.length cap2)) 25 HUT.out ?_ ?_ ?_ ?_ ?_); (exact rfl); (exact (HS246.out).get 0 rfl); (exact rfl); (exact info_tb); simp only [Act.put, List.setIfInBounds_toArray, List.set_cons_zero, List.set_cons_succ]))
  refine (HSz.out _).mono ?_
  rintro e w272 ⟨rfl, hb⟩
  have HS272 := Lib.hid ((HS246.out).calls hb)
  clear hb
  clear HS246
  clear HSz
  by_cases hfl : t.held.length + t.wait.length = 1024
  ·have HE : Hid (rq = (tbNil, false, 21)) := Lib.hid (by rw [HD3.out, if_pos hfl])
   have e1 : ((t.held.length : Int) + (t.wait.length : Int) == 1024) = true := by simp; omega
   clear hfl HD3
   go_upto_region 13 with (fail)
   clear e1
   go_wp2_with (first | ((with_reducible refine wpList_build_v (d := some 52) 25 (.agg (tbCells (.slice none 0 0) (.slice none 0 0)).toArray) ?_ ?_); (intro W; simp only [List.map_toArray, List.map_cons, List.map_nil]; exact build_tb0 W); simp only [Act.put, List.setIfInBounds_toArray, List.set_cons_zero, List.set_cons_succ]) | ((with_reducible refine wpList_store_ob 25 (.tmp 4) b4 (tbCells (.slice none 0 0) (.slice none 0 0)) (tbCells (.slice none 0 0) (.slice none 0 0)) 25 ?_ ?_ ?_ ?_ ?_ ?_ ?_); (exact rfl); (exact rfl); (exact (HS272.out).get 2 rfl); (exact info_tb); (exact rfl); (exact (oneCell_tb _ _ _ _ _ _)); skip))
   have HS298 : Hid (Hp w [.ob (w.heap.size) 25 (tbCells (.slice a t.held.length cap) (.slice a2 t.wait.length cap2)), .ob b3 29 (grCells g), .ob b4 25 (tbCells (.slice none 0 0) (.slice none 0 0)), .rd R, .ob B87 29 (grCells wx)] (w272.setRow b4 (tbCells (.slice none 0 0) (.slice none 0 0)).toArray)) := (HS272.out).row 2 rfl (tbCells (.slice none 0 0) (.slice none 0 0))
   clear HS272
   generalize (w272.setRow b4 (tbCells (.slice none 0 0) (.slice none 0 0)).toArray) = w298 at *
   refine bodyPost_ret (results_ob_tmp2 Try.results17 _ _ b4 (tbCells (.slice none 0 0) (.slice none 0 0)) 25 _ rfl ((HS298.out).get 2 rfl) HUT.out rfl info_tb) rfl ?_
   exact TbPost3.none (by exact HE.out) (HS298.out).old
  have HE : Hid (rq = (settleR (addedR t g), decide (g.mode ≤ modeG (settleR (addedR t g)).held g), 0)) := Lib.hid (by rw [HD3.out, if_neg hfl])
  have e1 : ((t.held.length : Int) + (t.wait.length : Int) == 1024) = false := by simp; omega
  clear hfl HD3
  go_upto_region 14 with (fail)
  clear e1
  have hpl := place_le t.held t.wait g
  have HAe := Lib.hid (added_ins t g)
  obtain ⟨p, hp⟩ : ∃ p, wplaceR t.held t.wait g = p := ⟨_, rfl⟩
  rw [hp] at hpl HAe HTu1
  clear hp
  have HPl := Lib.hid hpl
  obtain ⟨l6, hl6⟩ : ∃ l6, insG t.wait p g = l6 := ⟨_, rfl⟩
  have HL6 := Lib.hid hl6
  rw [hl6] at HAe
  clear hl6 hpl
  go_cut [] (fun wz => ∃ (a6 : Option Addr) (c6 : Nat) (R7 : List Rng), GrRd (.slice a6 l6.length c6) l6 R7 ∧ (∀ r ∈ R7, w.heap.size ≤ r.1) ∧ Hp w [.ob (w.heap.size) 25 (tbCells (.slice a t.held.length cap) (.slice a6 l6.length c6)), .ob b3 29 (grCells g), .ob b4 25 (tbCells (.slice none 0 0) (.slice none 0 0)), .rd R, .rd R7] wz)
  case first =>
   refine wp_region_held_drew (S := fun w' => w'.rangeAt b3 0 (grCells g)) (by kernel_rfl) ((fun j v hv => by rw [Nat.zero_add]; exact ((HS272.out).drew).at 1 rfl j hv)) (fun hHeld => ?_)
   refine tk 0 qPk14_11 (some 53) (v := ?q1201v) (Or.inl ⟨by rfl, ?q1201h⟩) hHeld ?q1201r
   case q1201h => (intro wq hSw; clear hSw; go_simp; try with_reducible rfl)
   try simp only [z0, z1, z2, z3]
   refine tk 4 qPk14_12 (some 57) (yieldsIf_load_mid (by rfl) 29 (.tmp 3) rfl b3 (0) rfl (grCells g) _ (fun _ h => h) HUG.out rfl (info_gr)) hHeld ?_
   try simp only [z0, z1, z2, z3]
   refine tk 6 qPk14_13 (some 59) (yieldsIf_load_mid (by rfl) 29 (.tmp 3) rfl b3 (0) rfl (grCells g) _ (fun _ h => h) HUG.out rfl (info_gr)) hHeld ?_
   try simp only [z0, z1, z2, z3]
   refine wpAnyH_ready (rs := [1, 3, 7]) (by kernel_rfl) (by simp) ?_
   refine AllReadyH.cons (o := qPk14_14) rfl (fun K hK => ?_) (AllReadyH.cons (o := qPk14_15) rfl (fun K hK => ?_) (AllReadyH.cons (o := qPk14_16) rfl (fun K hK => ?_) (AllReadyH.nil)))
   ·have q0 := ((HS272.out).drew).at 0 rfl 1 rfl
    go_simp
    clear q0
    have HS318 : Hid (Hp w [.ob (w.heap.size) 25 (tbCells (.slice a t.held.length cap) (.slice a2 t.wait.length cap2)), .ob b3 29 (grCells g), .ob b4 25 (tbCells (.slice none 0 0) (.slice none 0 0)), .rd R, .ob B87 29 (grCells wx)] (w272.drew)) := (HS272.out).drew
    refine hK.out _ _ ((fun j v hv => by rw [Nat.zero_add]; exact (HS318.out).at 1 rfl j hv)) (fun hHeld => ?_)
    clear hK K
    generalize w272.drew = w318 at *
    try simp only [z0, z1, z2, z3]
    refine wpAnyH_ready (rs := [2, 3, 7]) (by kernel_rfl) (by simp) ?_
    refine AllReadyH.cons (o := qPk14_17) rfl (fun K hK => ?_) (AllReadyH.cons (o := qPk14_15) rfl (fun K hK => ?_) (AllReadyH.cons (o := qPk14_16) rfl (fun K hK => ?_) (AllReadyH.nil)))
    ·go_simp
     go_wp2_with (go_at_call 43; refine (HCl.out _ (HS318.out).old).mono ?_; rintro e w319 ⟨u0, rfl, hb, ho⟩)
     have HS319 : Hid (Hp w [.ob (w.heap.size) 25 (tbCells (.slice a t.held.length cap) (.slice a2 t.wait.length cap2)), .ob b3 29 (grCells g), .ob b4 25 (tbCells (.slice none 0 0) (.slice none 0 0)), .rd R, .ob B87 29 (grCells wx), .sl u0 29 4 (t.wait.length) (grRow t.wait)] w319) := (HS318.out).addown hb ho
     refine hK.out _ _ ((fun j v hv => by rw [Nat.zero_add]; exact (HS319.out).at 1 rfl j hv)) (fun hHeld => ?_)
     clear hK K hb ho
     try simp only [z0, z1, z2, z3]
     refine wpAnyH_ready (rs := [3, 7]) (by kernel_rfl) (by simp) ?_
     refine AllReadyH.cons (o := qPk14_15) rfl (fun K hK => ?_) (AllReadyH.cons (o := qPk14_16) rfl (fun K hK => ?_) (AllReadyH.nil))
     ·rw [if_pos (by rfl)]
      refine wp_load_whole 25 (.tmp 2) (w.heap.size) (tbCells (.slice a t.held.length cap) (.slice a2 t.wait.length cap2)) 25 HUT.out rfl rfl ((HS319.out).get 0 rfl) rfl (info_tb) ?_
      have HS320 := HS319
      refine hK.out _ _ ((fun j v hv => by rw [Nat.zero_add]; exact (HS320.out).at 1 rfl j hv)) (fun hHeld => ?_)
      clear hK K
      try simp only [z0, z1, z2, z3]
      refine wpAnyH_ready (rs := [5, 7]) (by kernel_rfl) (by simp) ?_
      refine AllReadyH.cons (o := qPk14_18) rfl (fun K hK => ?_) (AllReadyH.cons (o := qPk14_16) rfl (fun K hK => ?_) (AllReadyH.nil))
      ·go_simp
       go_wp2_with (go_at_call 44; refine (HTu1.out _ (HS320.out).old).mono ?_; rintro e w320 ⟨rfl, hb⟩)
       have HS321 := Lib.hid ((HS320.out).calls hb)
       refine hK.out _ _ ((fun j v hv => by rw [Nat.zero_add]; exact (HS321.out).at 1 rfl j hv)) (fun hHeld => ?_)
       clear hK K hb
       try simp only [z0, z1, z2, z3]
       refine tn 7 qPk14_16 (fun K hK => ?_)
       rw [if_pos (by rfl)]
       refine wp_build_obs rfl elem_gr HUX.out [grCells g] (List.forall_mem_cons.2 ⟨rfl, (fun _ h => absurd h List.not_mem_nil)⟩) (Nat.succ_pos _) (by simp only [List.length_cons, List.length_nil]; omega) rfl (by simp only [List.map_toArray, List.map_cons, List.map_nil, List.zipIdx_cons, List.zipIdx_nil]; exact rfl) ?_
       have HS322 : Hid (Hp w [.ob (w.heap.size) 25 (tbCells (.slice a t.held.length cap) (.slice a2 t.wait.length cap2)), .ob b3 29 (grCells g), .ob b4 25 (tbCells (.slice none 0 0) (.slice none 0 0)), .rd R, .ob B87 29 (grCells wx), .sl u0 29 4 (t.wait.length) (grRow t.wait), .ob (w320.heap.size) 29 (([grCells g] : List (List Value)).flatMap id)] (w320.alloc (.cells (([grCells g] : List (List Value)).flatMap id).toArray 29))) := (HS321.out).put 29 (([grCells g] : List (List Value)).flatMap id)
       refine hK.out _ _ ((fun j v hv => by rw [Nat.zero_add]; exact (HS322.out).at 1 rfl j hv)) (fun hHeld => ?_)
       clear hK K
       generalize (w320.alloc (.cells (([grCells g] : List (List Value)).flatMap id).toArray 29)) = w321 at *
       generalize w320.heap.size = B318 at *
       try simp only [z0, z1, z2, z3]
       refine tn 8 qPk14_19 (fun K hK => ?_)
       go_simp
       go_wp2_with (go_at_call 42; refine (insert_own t.wait g p u0 w.heap.size B318 _ HPl.out ((HS322.out).own 5 rfl) ((HS322.out).get 6 rfl) (fun e => (HS322.out).ne 5 6 rfl rfl (by decide) e rfl rfl) (HS322.out).old.size (by have := HLn.out; omega)).mono ?_; rintro e w322 ⟨u6, rfl, ho6, hg6, hub6⟩)
       rw [HL6.out] at ho6
       have HS323 : Hid (Hp w [.ob (w.heap.size) 25 (tbCells (.slice a t.held.length cap) (.slice a2 t.wait.length cap2)), .ob b3 29 (grCells g), .ob b4 25 (tbCells (.slice none 0 0) (.slice none 0 0)), .rd R, .ob B87 29 (grCells wx), .sl u6 29 4 (l6.length) (grRow l6), .ob B318 29 (([grCells g] : List (List Value)).flatMap id)] w322) := (HS322.out).grown2 5 rfl ho6 hg6 (fun b hb => hub6.elim (fun h => .inl (h ▸ hb)) (fun h => .inr (by rw [h] at hb; exact Nat.le_of_eq (Option.some.inj hb))))
       refine hK.out _ _ ((fun j v hv => by rw [Nat.zero_add]; exact (HS323.out).at 1 rfl j hv)) (fun hHeld => ?_)
       clear hK K ho6 hg6 hub6
       try simp only [z0, z1, z2, z3]
       refine tk 9 qPk14_20 (some 62) (v := ?q1204v) (Or.inl ⟨by rfl, ?q1204h⟩) hHeld ?q1204r
       case q1204h => (intro wq hSw; clear hSw; go_simp; try with_reducible rfl)
       try simp only [z0, z1, z2, z3]
       refine tn 10 qPk14_21 (fun K hK => ?_)
       rw [if_pos (by rfl)]
       obtain ⟨a6, c6, rfl⟩ := own_slice ((HS323.out).own 5 rfl)
       have q5 := (HS323.out).at 0 rfl 1 rfl
       have f5 := (HS323.out).frozen 0 rfl 1
       go_simp
       clear q5 f5
       have HS324 : Hid (Hp w [.ob (w.heap.size) 25 (tbCells (.slice a t.held.length cap) (.slice a6 l6.length c6)), .ob b3 29 (grCells g), .ob b4 25 (tbCells (.slice none 0 0) (.slice none 0 0)), .rd R, .ob B87 29 (grCells wx), .sl ((.slice a6 l6.length c6)) 29 4 (l6.length) (grRow l6), .ob B318 29 (([grCells g] : List (List Value)).flatMap id)] (w322.setCell ⟨w.heap.size, 1, none⟩ (.slice a6 l6.length c6))) := (HS323.out).set 0 rfl 1 (.slice a6 l6.length c6)
       refine hK.out _ _ ((fun j v hv => by rw [Nat.zero_add]; exact (HS324.out).at 1 rfl j hv)) (fun hHeld => ?_)
       clear hK K
       generalize (w322.setCell ⟨w.heap.size, 1, none⟩ (.slice a6 l6.length c6)) = w323 at *
       try simp only [z0, z1, z2, z3]
       refine wpAnyH_done (by kernel_rfl) ?_ _
       clear hHeld
       have HS325 : Hid (Hp w [.ob (w.heap.size) 25 (tbCells (.slice a t.held.length cap) (.slice a6 l6.length c6)), .ob b3 29 (grCells g), .ob b4 25 (tbCells (.slice none 0 0) (.slice none 0 0)), .rd R, .sl ((.slice a6 l6.length c6)) 29 4 (l6.length) (grRow l6)] w323) := HS324.out.pull [0, 1, 2, 3, 5] rfl (pull_nd HS324.out.nd [0, 1, 2, 3, 5] rfl (by decide))
       clear HS324
       obtain ⟨R7, h7, hn7, hs7⟩ := Hp.ownrd2 (A := [.ob (w.heap.size) 25 (tbCells (.slice a t.held.length cap) (.slice a6 l6.length c6)), .ob b3 29 (grCells g), .ob b4 25 (tbCells (.slice none 0 0) (.slice none 0 0)), .rd R]) HS325.out
       go_wp2_with fail
       go_meet
       exact ⟨a6, c6, R7, h7, hn7, hs7⟩
      ·rw [if_pos (by rfl)]
       refine wp_build_obs rfl elem_gr HUX.out [grCells g] (List.forall_mem_cons.2 ⟨rfl, (fun _ h => absurd h List.not_mem_nil)⟩) (Nat.succ_pos _) (by simp only [List.length_cons, List.length_nil]; omega) rfl (by simp only [List.map_toArray, List.map_cons, List.map_nil, List.zipIdx_cons, List.zipIdx_nil]; exact rfl) ?_
       have HS321 : Hid (Hp w [.ob (w.heap.size) 25 (tbCells (.slice a t.held.length cap) (.slice a2 t.wait.length cap2)), .ob b3 29 (grCells g), .ob b4 25 (tbCells (.slice none 0 0) (.slice none 0 0)), .rd R, .ob B87 29 (grCells wx), .sl u0 29 4 (t.wait.length) (grRow t.wait), .ob (w319.heap.size) 29 (([grCells g] : List (List Value)).flatMap id)] (w319.alloc (.cells (([grCells g] : List (List Value)).flatMap id).toArray 29))) := (HS320.out).put 29 (([grCells g] : List (List Value)).flatMap id)
       refine hK.out _ _ ((fun j v hv => by rw [Nat.zero_add]; exact (HS321.out).at 1 rfl j hv)) (fun hHeld => ?_)
       clear hK K
       generalize (w319.alloc (.cells (([grCells g] : List (List Value)).flatMap id).toArray 29)) = w320 at *
       generalize w319.heap.size = B318 at *
       try simp only [z0, z1, z2, z3]
       refine tn 5 qPk14_18 (fun K hK => ?_)
       go_simp
       go_wp2_with (go_at_call 44; refine (HTu1.out _ (HS321.out).old).mono ?_; rintro e w321 ⟨rfl, hb⟩)
       have HS322 := Lib.hid ((HS321.out).calls hb)
       refine hK.out _ _ ((fun j v hv => by rw [Nat.zero_add]; exact (HS322.out).at 1 rfl j hv)) (fun hHeld => ?_)
       clear hK K hb
       try simp only [z0, z1, z2, z3]
       refine tn 8 qPk14_19 (fun K hK => ?_)
       go_simp
       go_wp2_with (go_at_call 42; refine (insert_own t.wait g p u0 w.heap.size B318 _ HPl.out ((HS322.out).own 5 rfl) ((HS322.out).get 6 rfl) (fun e => (HS322.out).ne 5 6 rfl rfl (by decide) e rfl rfl) (HS322.out).old.size (by have := HLn.out; omega)).mono ?_; rintro e w322 ⟨u6, rfl, ho6, hg6, hub6⟩)
       rw [HL6.out] at ho6
       have HS323 : Hid (Hp w [.ob (w.heap.size) 25 (tbCells (.slice a t.held.length cap) (.slice a2 t.wait.length cap2)), .ob b3 29 (grCells g), .ob b4 25 (tbCells (.slice none 0 0) (.slice none 0 0)), .rd R, .ob B87 29 (grCells wx), .sl u6 29 4 (l6.length) (grRow l6), .ob B318 29 (([grCells g] : List (List Value)).flatMap id)] w322) := (HS322.out).grown2 5 rfl ho6 hg6 (fun b hb => hub6.elim (fun h => .inl (h ▸ hb)) (fun h => .inr (by rw [h] at hb; exact Nat.le_of_eq (Option.some.inj hb))))
       refine hK.out _ _ ((fun j v hv => by rw [Nat.zero_add]; exact (HS323.out).at 1 rfl j hv)) (fun hHeld => ?_)
       clear hK K ho6 hg6 hub6
       try simp only [z0, z1, z2, z3]
       refine tk 9 qPk14_20 (some 62) (v := ?q1205v) (Or.inl ⟨by rfl, ?q1205h⟩) hHeld ?q1205r
       case q1205h => (intro wq hSw; clear hSw; go_simp; try with_reducible rfl)
       try simp only [z0, z1, z2, z3]
       refine tn 10 qPk14_21 (fun K hK => ?_)
       rw [if_pos (by rfl)]
       obtain ⟨a6, c6, rfl⟩ := own_slice ((HS323.out).own 5 rfl)
       have q5 := (HS323.out).at 0 rfl 1 rfl
       have f5 := (HS323.out).frozen 0 rfl 1
       go_simp
       clear q5 f5
       have HS324 : Hid (Hp w [.ob (w.heap.size) 25 (tbCells (.slice a t.held.length cap) (.slice a6 l6.length c6)), .ob b3 29 (grCells g), .ob b4 25 (tbCells (.slice none 0 0) (.slice none 0 0)), .rd R, .ob B87 29 (grCells wx), .sl ((.slice a6 l6.length c6)) 29 4 (l6.length) (grRow l6), .ob B318 29 (([grCells g] : List (List Value)).flatMap id)] (w322.setCell ⟨w.heap.size, 1, none⟩ (.slice a6 l6.length c6))) := (HS323.out).set 0 rfl 1 (.slice a6 l6.length c6)
       refine hK.out _ _ ((fun j v hv => by rw [Nat.zero_add]; exact (HS324.out).at 1 rfl j hv)) (fun hHeld => ?_)
       clear hK K
       generalize (w322.setCell ⟨w.heap.size, 1, none⟩ (.slice a6 l6.length c6)) = w323 at *
       try simp only [z0, z1, z2, z3]
       refine wpAnyH_done (by kernel_rfl) ?_ _
       clear hHeld
       have HS325 : Hid (Hp w [.ob (w.heap.size) 25 (tbCells (.slice a t.held.length cap) (.slice a6 l6.length c6)), .ob b3 29 (grCells g), .ob b4 25 (tbCells (.slice none 0 0) (.slice none 0 0)), .rd R, .sl ((.slice a6 l6.length c6)) 29 4 (l6.length) (grRow l6)] w323) := HS324.out.pull [0, 1, 2, 3, 5] rfl (pull_nd HS324.out.nd [0, 1, 2, 3, 5] rfl (by decide))
       clear HS324
       obtain ⟨R7, h7, hn7, hs7⟩ := Hp.ownrd2 (A := [.ob (w.heap.size) 25 (tbCells (.slice a t.held.length cap) (.slice a6 l6.length c6)), .ob b3 29 (grCells g), .ob b4 25 (tbCells (.slice none 0 0) (.slice none 0 0)), .rd R]) HS325.out
       go_wp2_with fail
       go_meet
       exact ⟨a6, c6, R7, h7, hn7, hs7⟩
     ·rw [if_pos (by rfl)]
      refine wp_build_obs rfl elem_gr HUX.out [grCells g] (List.forall_mem_cons.2 ⟨rfl, (fun _ h => absurd h List.not_mem_nil)⟩) (Nat.succ_pos _) (by simp only [List.length_cons, List.length_nil]; omega) rfl (by simp only [List.map_toArray, List.map_cons, List.map_nil, List.zipIdx_cons, List.zipIdx_nil]; exact rfl) ?_
      have HS320 : Hid (Hp w [.ob (w.heap.size) 25 (tbCells (.slice a t.held.length cap) (.slice a2 t.wait.length cap2)), .ob b3 29 (grCells g), .ob b4 25 (tbCells (.slice none 0 0) (.slice none 0 0)), .rd R, .ob B87 29 (grCells wx), .sl u0 29 4 (t.wait.length) (grRow t.wait), .ob (w319.heap.size) 29 (([grCells g] : List (List Value)).flatMap id)] (w319.alloc (.cells (([grCells g] : List (List Value)).flatMap id).toArray 29))) := (HS319.out).put 29 (([grCells g] : List (List Value)).flatMap id)
      refine hK.out _ _ ((fun j v hv => by rw [Nat.zero_add]; exact (HS320.out).at 1 rfl j hv)) (fun hHeld => ?_)
      clear hK K
      generalize (w319.alloc (.cells (([grCells g] : List (List Value)).flatMap id).toArray 29)) = w320 at *
      generalize w319.heap.size = B318 at *
      try simp only [z0, z1, z2, z3]
      refine tn 3 qPk14_15 (fun K hK => ?_)
      rw [if_pos (by rfl)]
      refine wp_load_whole 25 (.tmp 2) (w.heap.size) (tbCells (.slice a t.held.length cap) (.slice a2 t.wait.length cap2)) 25 HUT.out rfl rfl ((HS320.out).get 0 rfl) rfl (info_tb) ?_
      have HS321 := HS320
      refine hK.out _ _ ((fun j v hv => by rw [Nat.zero_add]; exact (HS321.out).at 1 rfl j hv)) (fun hHeld => ?_)
      clear hK K
      try simp only [z0, z1, z2, z3]
      refine tn 5 qPk14_18 (fun K hK => ?_)
      go_simp
      go_wp2_with (go_at_call 44; refine (HTu1.out _ (HS321.out).old).mono ?_; rintro e w321 ⟨rfl, hb⟩)
      have HS322 := Lib.hid ((HS321.out).calls hb)
      refine hK.out _ _ ((fun j v hv => by rw [Nat.zero_add]; exact (HS322.out).at 1 rfl j hv)) (fun hHeld => ?_)
      clear hK K hb
      try simp only [z0, z1, z2, z3]
      refine tn 8 qPk14_19 (fun K hK => ?_)
      go_simp
      go_wp2_with (go_at_call 42; refine (insert_own t.wait g p u0 w.heap.size B318 _ HPl.out ((HS322.out).own 5 rfl) ((HS322.out).get 6 rfl) (fun e => (HS322.out).ne 5 6 rfl rfl (by decide) e rfl rfl) (HS322.out).old.size (by have := HLn.out; omega)).mono ?_; rintro e w322 ⟨u6, rfl, ho6, hg6, hub6⟩)
      rw [HL6.out] at ho6
      have HS323 : Hid (Hp w [.ob (w.heap.size) 25 (tbCells (.slice a t.held.length cap) (.slice a2 t.wait.length cap2)), .ob b3 29 (grCells g), .ob b4 25 (tbCells (.slice none 0 0) (.slice none 0 0)), .rd R, .ob B87 29 (grCells wx), .sl u6 29 4 (l6.length) (grRow l6), .ob B318 29 (([grCells g] : List (List Value)).flatMap id)] w322) := (HS322.out).grown2 5 rfl ho6 hg6 (fun b hb => hub6.elim (fun h => .inl (h ▸ hb)) (fun h => .inr (by rw [h] at hb; exact Nat.le_of_eq (Option.some.inj hb))))
      refine hK.out _ _ ((fun j v hv => by rw [Nat.zero_add]; exact (HS323.out).at 1 rfl j hv)) (fun hHeld => ?_)
      clear hK K ho6 hg6 hub6
      try simp only [z0, z1, z2, z3]
      refine tk 9 qPk14_20 (some 62) (v := ?q1206v) (Or.inl ⟨by rfl, ?q1206h⟩) hHeld ?q1206r
      case q1206h => (intro wq hSw; clear hSw; go_simp; try with_reducible rfl)
      try simp only [z0, z1, z2, z3]
      refine tn 10 qPk14_21 (fun K hK => ?_)
      rw [if_pos (by rfl)]
      obtain ⟨a6, c6, rfl⟩ := own_slice ((HS323.out).own 5 rfl)
      have q5 := (HS323.out).at 0 rfl 1 rfl
      have f5 := (HS323.out).frozen 0 rfl 1
      go_simp
      clear q5 f5
      have HS324 : Hid (Hp w [.ob (w.heap.size) 25 (tbCells (.slice a t.held.length cap) (.slice a6 l6.length c6)), .ob b3 29 (grCells g), .ob b4 25 (tbCells (.slice none 0 0) (.slice none 0 0)), .rd R, .ob B87 29 (grCells wx), .sl ((.slice a6 l6.length c6)) 29 4 (l6.length) (grRow l6), .ob B318 29 (([grCells g] : List (List Value)).flatMap id)] (w322.setCell ⟨w.heap.size, 1, none⟩ (.slice a6 l6.length c6))) := (HS323.out).set 0 rfl 1 (.slice a6 l6.length c6)
      refine hK.out _ _ ((fun j v hv => by rw [Nat.zero_add]; exact (HS324.out).at 1 rfl j hv)) (fun hHeld => ?_)
      clear hK K
      generalize (w322.setCell ⟨w.heap.size, 1, none⟩ (.slice a6 l6.length c6)) = w323 at *
      try simp only [z0, z1, z2, z3]
      refine wpAnyH_done (by kernel_rfl) ?_ _
      clear hHeld
      have HS325 : Hid (Hp w [.ob (w.heap.size) 25 (tbCells (.slice a t.held.length cap) (.slice a6 l6.length c6)), .ob b3 29 (grCells g), .ob b4 25 (tbCells (.slice none 0 0) (.slice none 0 0)), .rd R, .sl ((.slice a6 l6.length c6)) 29 4 (l6.length) (grRow l6)] w323) := HS324.out.pull [0, 1, 2, 3, 5] rfl (pull_nd HS324.out.nd [0, 1, 2, 3, 5] rfl (by decide))
      clear HS324
      obtain ⟨R7, h7, hn7, hs7⟩ := Hp.ownrd2 (A := [.ob (w.heap.size) 25 (tbCells (.slice a t.held.length cap) (.slice a6 l6.length c6)), .ob b3 29 (grCells g), .ob b4 25 (tbCells (.slice none 0 0) (.slice none 0 0)), .rd R]) HS325.out
      go_wp2_with fail
      go_meet
      exact ⟨a6, c6, R7, h7, hn7, hs7⟩
    ·rw [if_pos (by rfl)]
     refine wp_load_whole 25 (.tmp 2) (w.heap.size) (tbCells (.slice a t.held.length cap) (.slice a2 t.wait.length cap2)) 25 HUT.out rfl rfl ((HS318.out).get 0 rfl) rfl (info_tb) ?_
     have HS319 := HS318
     refine hK.out _ _ ((fun j v hv => by rw [Nat.zero_add]; exact (HS319.out).at 1 rfl j hv)) (fun hHeld => ?_)
     clear hK K
     try simp only [z0, z1, z2, z3]
     refine wpAnyH_ready (rs := [2, 7]) (by kernel_rfl) (by simp) ?_
     refine AllReadyH.cons (o := qPk14_17) rfl (fun K hK => ?_) (AllReadyH.cons (o := qPk14_16) rfl (fun K hK => ?_) (AllReadyH.nil))
     ·go_simp
      go_wp2_with (go_at_call 43; refine (HCl.out _ (HS319.out).old).mono ?_; rintro e w319 ⟨u0, rfl, hb, ho⟩)
      have HS320 : Hid (Hp w [.ob (w.heap.size) 25 (tbCells (.slice a t.held.length cap) (.slice a2 t.wait.length cap2)), .ob b3 29 (grCells g), .ob b4 25 (tbCells (.slice none 0 0) (.slice none 0 0)), .rd R, .ob B87 29 (grCells wx), .sl u0 29 4 (t.wait.length) (grRow t.wait)] w319) := (HS319.out).addown hb ho
      refine hK.out _ _ ((fun j v hv => by rw [Nat.zero_add]; exact (HS320.out).at 1 rfl j hv)) (fun hHeld => ?_)
      clear hK K hb ho
      try simp only [z0, z1, z2, z3]
      refine wpAnyH_ready (rs := [5, 7]) (by kernel_rfl) (by simp) ?_
      refine AllReadyH.cons (o := qPk14_18) rfl (fun K hK => ?_) (AllReadyH.cons (o := qPk14_16) rfl (fun K hK => ?_) (AllReadyH.nil))
      ·go_simp
       go_wp2_with (go_at_call 44; refine (HTu1.out _ (HS320.out).old).mono ?_; rintro e w320 ⟨rfl, hb⟩)
       have HS321 := Lib.hid ((HS320.out).calls hb)
       refine hK.out _ _ ((fun j v hv => by rw [Nat.zero_add]; exact (HS321.out).at 1 rfl j hv)) (fun hHeld => ?_)
       clear hK K hb
       try simp only [z0, z1, z2, z3]
       refine tn 7 qPk14_16 (fun K hK => ?_)
       rw [if_pos (by rfl)]
       refine wp_build_obs rfl elem_gr HUX.out [grCells g] (List.forall_mem_cons.2 ⟨rfl, (fun _ h => absurd h List.not_mem_nil)⟩) (Nat.succ_pos _) (by simp only [List.length_cons, List.length_nil]; omega) rfl (by simp only [List.map_toArray, List.map_cons, List.map_nil, List.zipIdx_cons, List.zipIdx_nil]; exact rfl) ?_
       have HS322 : Hid (Hp w [.ob (w.heap.size) 25 (tbCells (.slice a t.held.length cap) (.slice a2 t.wait.length cap2)), .ob b3 29 (grCells g), .ob b4 25 (tbCells (.slice none 0 0) (.slice none 0 0)), .rd R, .ob B87 29 (grCells wx), .sl u0 29 4 (t.wait.length) (grRow t.wait), .ob (w320.heap.size) 29 (([grCells g] : List (List Value)).flatMap id)] (w320.alloc (.cells (([grCells g] : List (List Value)).flatMap id).toArray 29))) := (HS321.out).put 29 (([grCells g] : List (List Value)).flatMap id)
       refine hK.out _ _ ((fun j v hv => by rw [Nat.zero_add]; exact (HS322.out).at 1 rfl j hv)) (fun hHeld => ?_)
       clear hK K
       generalize (w320.alloc (.cells (([grCells g] : List (List Value)).flatMap id).toArray 29)) = w321 at *
       generalize w320.heap.size = B318 at *
       try simp only [z0, z1, z2, z3]
       refine tn 8 qPk14_19 (fun K hK => ?_)
       go_simp
       go_wp2_with (go_at_call 42; refine (insert_own t.wait g p u0 w.heap.size B318 _ HPl.out ((HS322.out).own 5 rfl) ((HS322.out).get 6 rfl) (fun e => (HS322.out).ne 5 6 rfl rfl (by decide) e rfl rfl) (HS322.out).old.size (by have := HLn.out; omega)).mono ?_; rintro e w322 ⟨u6, rfl, ho6, hg6, hub6⟩)
       rw [HL6.out] at ho6
       have HS323 : Hid (Hp w [.ob (w.heap.size) 25 (tbCells (.slice a t.held.length cap) (.slice a2 t.wait.length cap2)), .ob b3 29 (grCells g), .ob b4 25 (tbCells (.slice none 0 0) (.slice none 0 0)), .rd R, .ob B87 29 (grCells wx), .sl u6 29 4 (l6.length) (grRow l6), .ob B318 29 (([grCells g] : List (List Value)).flatMap id)] w322) := (HS322.out).grown2 5 rfl ho6 hg6 (fun b hb => hub6.elim (fun h => .inl (h ▸ hb)) (fun h => .inr (by rw [h] at hb; exact Nat.le_of_eq (Option.some.inj hb))))
       refine hK.out _ _ ((fun j v hv => by rw [Nat.zero_add]; exact (HS323.out).at 1 rfl j hv)) (fun hHeld => ?_)
       clear hK K ho6 hg6 hub6
       try simp only [z0, z1, z2, z3]
       refine tk 9 qPk14_20 (some 62) (v := ?q1207v) (Or.inl ⟨by rfl, ?q1207h⟩) hHeld ?q1207r
       case q1207h => (intro wq hSw; clear hSw; go_simp; try with_reducible rfl)
       try simp only [z0, z1, z2, z3]
       refine tn 10 qPk14_21 (fun K hK => ?_)
       rw [if_pos (by rfl)]
       obtain ⟨a6, c6, rfl⟩ := own_slice ((HS323.out).own 5 rfl)
       have q5 := (HS323.out).at 0 rfl 1 rfl
       have f5 := (HS323.out).frozen 0 rfl 1
       go_simp
       clear q5 f5
       have HS324 : Hid (Hp w [.ob (w.heap.size) 25 (tbCells (.slice a t.held.length cap) (.slice a6 l6.length c6)), .ob b3 29 (grCells g), .ob b4 25 (tbCells (.slice none 0 0) (.slice none 0 0)), .rd R, .ob B87 29 (grCells wx), .sl ((.slice a6 l6.length c6)) 29 4 (l6.length) (grRow l6), .ob B318 29 (([grCells g] : List (List Value)).flatMap id)] (w322.setCell ⟨w.heap.size, 1, none⟩ (.slice a6 l6.length c6))) := (HS323.out).set 0 rfl 1 (.slice a6 l6.length c6)
       refine hK.out _ _ ((fun j v hv => by rw [Nat.zero_add]; exact (HS324.out).at 1 rfl j hv)) (fun hHeld => ?_)
       clear hK K
       generalize (w322.setCell ⟨w.heap.size, 1, none⟩ (.slice a6 l6.length c6)) = w323 at *
       try simp only [z0, z1, z2, z3]
       refine wpAnyH_done (by kernel_rfl) ?_ _
       clear hHeld
       have HS325 : Hid (Hp w [.ob (w.heap.size) 25 (tbCells (.slice a t.held.length cap) (.slice a6 l6.length c6)), .ob b3 29 (grCells g), .ob b4 25 (tbCells (.slice none 0 0) (.slice none 0 0)), .rd R, .sl ((.slice a6 l6.length c6)) 29 4 (l6.length) (grRow l6)] w323) := HS324.out.pull [0, 1, 2, 3, 5] rfl (pull_nd HS324.out.nd [0, 1, 2, 3, 5] rfl (by decide))
       clear HS324
       obtain ⟨R7, h7, hn7, hs7⟩ := Hp.ownrd2 (A := [.ob (w.heap.size) 25 (tbCells (.slice a t.held.length cap) (.slice a6 l6.length c6)), .ob b3 29 (grCells g), .ob b4 25 (tbCells (.slice none 0 0) (.slice none 0 0)), .rd R]) HS325.out
       go_wp2_with fail
       go_meet
       exact ⟨a6, c6, R7, h7, hn7, hs7⟩
      ·rw [if_pos (by rfl)]
       refine wp_build_obs rfl elem_gr HUX.out [grCells g] (List.forall_mem_cons.2 ⟨rfl, (fun _ h => absurd h List.not_mem_nil)⟩) (Nat.succ_pos _) (by simp only [List.length_cons, List.length_nil]; omega) rfl (by simp only [List.map_toArray, List.map_cons, List.map_nil, List.zipIdx_cons, List.zipIdx_nil]; exact rfl) ?_
       have HS321 : Hid (Hp w [.ob (w.heap.size) 25 (tbCells (.slice a t.held.length cap) (.slice a2 t.wait.length cap2)), .ob b3 29 (grCells g), .ob b4 25 (tbCells (.slice none 0 0) (.slice none 0 0)), .rd R, .ob B87 29 (grCells wx), .sl u0 29 4 (t.wait.length) (grRow t.wait), .ob (w319.heap.size) 29 (([grCells g] : List (List Value)).flatMap id)] (w319.alloc (.cells (([grCells g] : List (List Value)).flatMap id).toArray 29))) := (HS320.out).put 29 (([grCells g] : List (List Value)).flatMap id)
       refine hK.out _ _ ((fun j v hv => by rw [Nat.zero_add]; exact (HS321.out).at 1 rfl j hv)) (fun hHeld => ?_)
       clear hK K
       generalize (w319.alloc (.cells (([grCells g] : List (List Value)).flatMap id).toArray 29)) = w320 at *
       generalize w319.heap.size = B318 at *
       try simp only [z0, z1, z2, z3]
       refine tn 5 qPk14_18 (fun K hK => ?_)
       go_simp
       go_wp2_with (go_at_call 44; refine (HTu1.out _ (HS321.out).old).mono ?_; rintro e w321 ⟨rfl, hb⟩)
       have HS322 := Lib.hid ((HS321.out).calls hb)
       refine hK.out _ _ ((fun j v hv => by rw [Nat.zero_add]; exact (HS322.out).at 1 rfl j hv)) (fun hHeld => ?_)
       clear hK K hb
       try simp only [z0, z1, z2, z3]
       refine tn 8 qPk14_19 (fun K hK => ?_)
       go_simp
       go_wp2_with (go_at_call 42; refine (insert_own t.wait g p u0 w.heap.size B318 _ HPl.out ((HS322.out).own 5 rfl) ((HS322.out).get 6 rfl) (fun e => (HS322.out).ne 5 6 rfl rfl (by decide) e rfl rfl) (HS322.out).old.size (by have := HLn.out; omega)).mono ?_; rintro e w322 ⟨u6, rfl, ho6, hg6, hub6⟩)
       rw [HL6.out] at ho6
       have HS323 : Hid (Hp w [.ob (w.heap.size) 25 (tbCells (.slice a t.held.length cap) (.slice a2 t.wait.length cap2)), .ob b3 29 (grCells g), .ob b4 25 (tbCells (.slice none 0 0) (.slice none 0 0)), .rd R, .ob B87 29 (grCells wx), .sl u6 29 4 (l6.length) (grRow l6), .ob B318 29 (([grCells g] : List (List Value)).flatMap id)] w322) := (HS322.out).grown2 5 rfl ho6 hg6 (fun b hb => hub6.elim (fun h => .inl (h ▸ hb)) (fun h => .inr (by rw [h] at hb; exact Nat.le_of_eq (Option.some.inj hb))))
       refine hK.out _ _ ((fun j v hv => by rw [Nat.zero_add]; exact (HS323.out).at 1 rfl j hv)) (fun hHeld => ?_)
       clear hK K ho6 hg6 hub6
       try simp only [z0, z1, z2, z3]
       refine tk 9 qPk14_20 (some 62) (v := ?q1208v) (Or.inl ⟨by rfl, ?q1208h⟩) hHeld ?q1208r
       case q1208h => (intro wq hSw; clear hSw; go_simp; try with_reducible rfl)
       try simp only [z0, z1, z2, z3]
       refine tn 10 qPk14_21 (fun K hK => ?_)
       rw [if_pos (by rfl)]
       obtain ⟨a6, c6, rfl⟩ := own_slice ((HS323.out).own 5 rfl)
       have q5 := (HS323.out).at 0 rfl 1 rfl
       have f5 := (HS323.out).frozen 0 rfl 1
       go_simp
       clear q5 f5
       have HS324 : Hid (Hp w [.ob (w.heap.size) 25 (tbCells (.slice a t.held.length cap) (.slice a6 l6.length c6)), .ob b3 29 (grCells g), .ob b4 25 (tbCells (.slice none 0 0) (.slice none 0 0)), .rd R, .ob B87 29 (grCells wx), .sl ((.slice a6 l6.length c6)) 29 4 (l6.length) (grRow l6), .ob B318 29 (([grCells g] : List (List Value)).flatMap id)] (w322.setCell ⟨w.heap.size, 1, none⟩ (.slice a6 l6.length c6))) := (HS323.out).set 0 rfl 1 (.slice a6 l6.length c6)
       refine hK.out _ _ ((fun j v hv => by rw [Nat.zero_add]; exact (HS324.out).at 1 rfl j hv)) (fun hHeld => ?_)
       clear hK K
       generalize (w322.setCell ⟨w.heap.size, 1, none⟩ (.slice a6 l6.length c6)) = w323 at *
       try simp only [z0, z1, z2, z3]
       refine wpAnyH_done (by kernel_rfl) ?_ _
       clear hHeld
       have HS325 : Hid (Hp w [.ob (w.heap.size) 25 (tbCells (.slice a t.held.length cap) (.slice a6 l6.length c6)), .ob b3 29 (grCells g), .ob b4 25 (tbCells (.slice none 0 0) (.slice none 0 0)), .rd R, .sl ((.slice a6 l6.length c6)) 29 4 (l6.length) (grRow l6)] w323) := HS324.out.pull [0, 1, 2, 3, 5] rfl (pull_nd HS324.out.nd [0, 1, 2, 3, 5] rfl (by decide))
       clear HS324
       obtain ⟨R7, h7, hn7, hs7⟩ := Hp.ownrd2 (A := [.ob (w.heap.size) 25 (tbCells (.slice a t.held.length cap) (.slice a6 l6.length c6)), .ob b3 29 (grCells g), .ob b4 25 (tbCells (.slice none 0 0) (.slice none 0 0)), .rd R]) HS325.out
       go_wp2_with fail
       go_meet
       exact ⟨a6, c6, R7, h7, hn7, hs7⟩
     ·rw [if_pos (by rfl)]
      refine wp_build_obs rfl elem_gr HUX.out [grCells g] (List.forall_mem_cons.2 ⟨rfl, (fun _ h => absurd h List.not_mem_nil)⟩) (Nat.succ_pos _) (by simp only [List.length_cons, List.length_nil]; omega) rfl (by simp only [List.map_toArray, List.map_cons, List.map_nil, List.zipIdx_cons, List.zipIdx_nil]; exact rfl) ?_
      have HS320 : Hid (Hp w [.ob (w.heap.size) 25 (tbCells (.slice a t.held.length cap) (.slice a2 t.wait.length cap2)), .ob b3 29 (grCells g), .ob b4 25 (tbCells (.slice none 0 0) (.slice none 0 0)), .rd R, .ob B87 29 (grCells wx), .ob (w318.heap.size) 29 (([grCells g] : List (List Value)).flatMap id)] (w318.alloc (.cells (([grCells g] : List (List Value)).flatMap id).toArray 29))) := (HS319.out).put 29 (([grCells g] : List (List Value)).flatMap id)
      refine hK.out _ _ ((fun j v hv => by rw [Nat.zero_add]; exact (HS320.out).at 1 rfl j hv)) (fun hHeld => ?_)
      clear hK K
      generalize (w318.alloc (.cells (([grCells g] : List (List Value)).flatMap id).toArray 29)) = w319 at *
      generalize w318.heap.size = B318 at *
      try simp only [z0, z1, z2, z3]
      refine tn 2 qPk14_17 (fun K hK => ?_)
      go_simp
      go_wp2_with (go_at_call 43; refine (HCl.out _ (HS320.out).old).mono ?_; rintro e w320 ⟨u0, rfl, hb, ho⟩)
      have HS321 : Hid (Hp w [.ob (w.heap.size) 25 (tbCells (.slice a t.held.length cap) (.slice a2 t.wait.length cap2)), .ob b3 29 (grCells g), .ob b4 25 (tbCells (.slice none 0 0) (.slice none 0 0)), .rd R, .ob B87 29 (grCells wx), .ob B318 29 (([grCells g] : List (List Value)).flatMap id), .sl u0 29 4 (t.wait.length) (grRow t.wait)] w320) := (HS320.out).addown hb ho
      refine hK.out _ _ ((fun j v hv => by rw [Nat.zero_add]; exact (HS321.out).at 1 rfl j hv)) (fun hHeld => ?_)
      clear hK K hb ho
      try simp only [z0, z1, z2, z3]
      refine tn 5 qPk14_18 (fun K hK => ?_)
      go_simp
      go_wp2_with (go_at_call 44; refine (HTu1.out _ (HS321.out).old).mono ?_; rintro e w321 ⟨rfl, hb⟩)
      have HS322 := Lib.hid ((HS321.out).calls hb)
      refine hK.out _ _ ((fun j v hv => by rw [Nat.zero_add]; exact (HS322.out).at 1 rfl j hv)) (fun hHeld => ?_)
      clear hK K hb
      try simp only [z0, z1, z2, z3]
      refine tn 8 qPk14_19 (fun K hK => ?_)
      go_simp
      go_wp2_with (go_at_call 42; refine (insert_own t.wait g p u0 w.heap.size B318 _ HPl.out ((HS322.out).own 6 rfl) ((HS322.out).get 5 rfl) (fun e => (HS322.out).ne 6 5 rfl rfl (by decide) e rfl rfl) (HS322.out).old.size (by have := HLn.out; omega)).mono ?_; rintro e w322 ⟨u6, rfl, ho6, hg6, hub6⟩)
      rw [HL6.out] at ho6
      have HS323 : Hid (Hp w [.ob (w.heap.size) 25 (tbCells (.slice a t.held.length cap) (.slice a2 t.wait.length cap2)), .ob b3 29 (grCells g), .ob b4 25 (tbCells (.slice none 0 0) (.slice none 0 0)), .rd R, .ob B87 29 (grCells wx), .ob B318 29 (([grCells g] : List (List Value)).flatMap id), .sl u6 29 4 (l6.length) (grRow l6)] w322) := (HS322.out).grown2 6 rfl ho6 hg6 (fun b hb => hub6.elim (fun h => .inl (h ▸ hb)) (fun h => .inr (by rw [h] at hb; exact Nat.le_of_eq (Option.some.inj hb))))
      refine hK.out _ _ ((fun j v hv => by rw [Nat.zero_add]; exact (HS323.out).at 1 rfl j hv)) (fun hHeld => ?_)
      clear hK K ho6 hg6 hub6
      try simp only [z0, z1, z2, z3]
      refine tk 9 qPk14_20 (some 62) (v := ?q1209v) (Or.inl ⟨by rfl, ?q1209h⟩) hHeld ?q1209r
      case q1209h => (intro wq hSw; clear hSw; go_simp; try with_reducible rfl)
      try simp only [z0, z1, z2, z3]
      refine tn 10 qPk14_21 (fun K hK => ?_)
      rw [if_pos (by rfl)]
      obtain ⟨a6, c6, rfl⟩ := own_slice ((HS323.out).own 6 rfl)
      have q5 := (HS323.out).at 0 rfl 1 rfl
      have f5 := (HS323.out).frozen 0 rfl 1
      go_simp
      clear q5 f5
      have HS324 : Hid (Hp w [.ob (w.heap.size) 25 (tbCells (.slice a t.held.length cap) (.slice a6 l6.length c6)), .ob b3 29 (grCells g), .ob b4 25 (tbCells (.slice none 0 0) (.slice none 0 0)), .rd R, .ob B87 29 (grCells wx), .ob B318 29 (([grCells g] : List (List Value)).flatMap id), .sl ((.slice a6 l6.length c6)) 29 4 (l6.length) (grRow l6)] (w322.setCell ⟨w.heap.size, 1, none⟩ (.slice a6 l6.length c6))) := (HS323.out).set 0 rfl 1 (.slice a6 l6.length c6)
      refine hK.out _ _ ((fun j v hv => by rw [Nat.zero_add]; exact (HS324.out).at 1 rfl j hv)) (fun hHeld => ?_)
      clear hK K
      generalize (w322.setCell ⟨w.heap.size, 1, none⟩ (.slice a6 l6.length c6)) = w323 at *
      try simp only [z0, z1, z2, z3]
      refine wpAnyH_done (by kernel_rfl) ?_ _
      clear hHeld
      have HS325 : Hid (Hp w [.ob (w.heap.size) 25 (tbCells (.slice a t.held.length cap) (.slice a6 l6.length c6)), .ob b3 29 (grCells g), .ob b4 25 (tbCells (.slice none 0 0) (.slice none 0 0)), .rd R, .sl ((.slice a6 l6.length c6)) 29 4 (l6.length) (grRow l6)] w323) := HS324.out.pull [0, 1, 2, 3, 6] rfl (pull_nd HS324.out.nd [0, 1, 2, 3, 6] rfl (by decide))
      clear HS324
      obtain ⟨R7, h7, hn7, hs7⟩ := Hp.ownrd2 (A := [.ob (w.heap.size) 25 (tbCells (.slice a t.held.length cap) (.slice a6 l6.length c6)), .ob b3 29 (grCells g), .ob b4 25 (tbCells (.slice none 0 0) (.slice none 0 0)), .rd R]) HS325.out
      go_wp2_with fail
      go_meet
      exact ⟨a6, c6, R7, h7, hn7, hs7⟩
    ·rw [if_pos (by rfl)]
     refine wp_build_obs rfl elem_gr HUX.out [grCells g] (List.forall_mem_cons.2 ⟨rfl, (fun _ h => absurd h List.not_mem_nil)⟩) (Nat.succ_pos _) (by simp only [List.length_cons, List.length_nil]; omega) rfl (by simp only [List.map_toArray, List.map_cons, List.map_nil, List.zipIdx_cons, List.zipIdx_nil]; exact rfl) ?_
     have HS319 : Hid (Hp w [.ob (w.heap.size) 25 (tbCells (.slice a t.held.length cap) (.slice a2 t.wait.length cap2)), .ob b3 29 (grCells g), .ob b4 25 (tbCells (.slice none 0 0) (.slice none 0 0)), .rd R, .ob B87 29 (grCells wx), .ob (w318.heap.size) 29 (([grCells g] : List (List Value)).flatMap id)] (w318.alloc (.cells (([grCells g] : List (List Value)).flatMap id).toArray 29))) := (HS318.out).put 29 (([grCells g] : List (List Value)).flatMap id)
     refine hK.out _ _ ((fun j v hv => by rw [Nat.zero_add]; exact (HS319.out).at 1 rfl j hv)) (fun hHeld => ?_)
     clear hK K
     generalize (w318.alloc (.cells (([grCells g] : List (List Value)).flatMap id).toArray 29)) = w319 at *
     generalize w318.heap.size = B318 at *
     try simp only [z0, z1, z2, z3]
     refine wpAnyH_ready (rs := [2, 3]) (by kernel_rfl) (by simp) ?_
     refine AllReadyH.cons (o := qPk14_17) rfl (fun K hK => ?_) (AllReadyH.cons (o := qPk14_15) rfl (fun K hK => ?_) (AllReadyH.nil))
     ·go_simp
      go_wp2_with (go_at_call 43; refine (HCl.out _ (HS319.out).old).mono ?_; rintro e w320 ⟨u0, rfl, hb, ho⟩)
      have HS320 : Hid (Hp w [.ob (w.heap.size) 25 (tbCells (.slice a t.held.length cap) (.slice a2 t.wait.length cap2)), .ob b3 29 (grCells g), .ob b4 25 (tbCells (.slice none 0 0) (.slice none 0 0)), .rd R, .ob B87 29 (grCells wx), .ob B318 29 (([grCells g] : List (List Value)).flatMap id), .sl u0 29 4 (t.wait.length) (grRow t.wait)] w320) := (HS319.out).addown hb ho
      refine hK.out _ _ ((fun j v hv => by rw [Nat.zero_add]; exact (HS320.out).at 1 rfl j hv)) (fun hHeld => ?_)
      clear hK K hb ho
      try simp only [z0, z1, z2, z3]
      refine tn 3 qPk14_15 (fun K hK => ?_)
      rw [if_pos (by rfl)]
      refine wp_load_whole 25 (.tmp 2) (w.heap.size) (tbCells (.slice a t.held.length cap) (.slice a2 t.wait.length cap2)) 25 HUT.out rfl rfl ((HS320.out).get 0 rfl) rfl (info_tb) ?_
      have HS321 := HS320
      refine hK.out _ _ ((fun j v hv => by rw [Nat.zero_add]; exact (HS321.out).at 1 rfl j hv)) (fun hHeld => ?_)
      clear hK K
      try simp only [z0, z1, z2, z3]
      refine tn 5 qPk14_18 (fun K hK => ?_)
      go_simp
      go_wp2_with (go_at_call 44; refine (HTu1.out _ (HS321.out).old).mono ?_; rintro e w321 ⟨rfl, hb⟩)
      have HS322 := Lib.hid ((HS321.out).calls hb)
      refine hK.out _ _ ((fun j v hv => by rw [Nat.zero_add]; exact (HS322.out).at 1 rfl j hv)) (fun hHeld => ?_)
      clear hK K hb
      try simp only [z0, z1, z2, z3]
      refine tn 8 qPk14_19 (fun K hK => ?_)
      go_simp
      go_wp2_with (go_at_call 42; refine (insert_own t.wait g p u0 w.heap.size B318 _ HPl.out ((HS322.out).own 6 rfl) ((HS322.out).get 5 rfl) (fun e => (HS322.out).ne 6 5 rfl rfl (by decide) e rfl rfl) (HS322.out).old.size (by have := HLn.out; omega)).mono ?_; rintro e w322 ⟨u6, rfl, ho6, hg6, hub6⟩)
      rw [HL6.out] at ho6
      have HS323 : Hid (Hp w [.ob (w.heap.size) 25 (tbCells (.slice a t.held.length cap) (.slice a2 t.wait.length cap2)), .ob b3 29 (grCells g), .ob b4 25 (tbCells (.slice none 0 0) (.slice none 0 0)), .rd R, .ob B87 29 (grCells wx), .ob B318 29 (([grCells g] : List (List Value)).flatMap id), .sl u6 29 4 (l6.length) (grRow l6)] w322) := (HS322.out).grown2 6 rfl ho6 hg6 (fun b hb => hub6.elim (fun h => .inl (h ▸ hb)) (fun h => .inr (by rw [h] at hb; exact Nat.le_of_eq (Option.some.inj hb))))
      refine hK.out _ _ ((fun j v hv => by rw [Nat.zero_add]; exact (HS323.out).at 1 rfl j hv)) (fun hHeld => ?_)
      clear hK K ho6 hg6 hub6
      try simp only [z0, z1, z2, z3]
      refine tk 9 qPk14_20 (some 62) (v := ?q1210v) (Or.inl ⟨by rfl, ?q1210h⟩) hHeld ?q1210r
      case q1210h => (intro wq hSw; clear hSw; go_simp; try with_reducible rfl)
      try simp only [z0, z1, z2, z3]
      refine tn 10 qPk14_21 (fun K hK => ?_)
      rw [if_pos (by rfl)]
      obtain ⟨a6, c6, rfl⟩ := own_slice ((HS323.out).own 6 rfl)
      have q5 := (HS323.out).at 0 rfl 1 rfl
      have f5 := (HS323.out).frozen 0 rfl 1
      go_simp
      clear q5 f5
      have HS324 : Hid (Hp w [.ob (w.heap.size) 25 (tbCells (.slice a t.held.length cap) (.slice a6 l6.length c6)), .ob b3 29 (grCells g), .ob b4 25 (tbCells (.slice none 0 0) (.slice none 0 0)), .rd R, .ob B87 29 (grCells wx), .ob B318 29 (([grCells g] : List (List Value)).flatMap id), .sl ((.slice a6 l6.length c6)) 29 4 (l6.length) (grRow l6)] (w322.setCell ⟨w.heap.size, 1, none⟩ (.slice a6 l6.length c6))) := (HS323.out).set 0 rfl 1 (.slice a6 l6.length c6)
      refine hK.out _ _ ((fun j v hv => by rw [Nat.zero_add]; exact (HS324.out).at 1 rfl j hv)) (fun hHeld => ?_)
      clear hK K
      generalize (w322.setCell ⟨w.heap.size, 1, none⟩ (.slice a6 l6.length c6)) = w323 at *
      try simp only [z0, z1, z2, z3]
      refine wpAnyH_done (by kernel_rfl) ?_ _
      clear hHeld
      have HS325 : Hid (Hp w [.ob (w.heap.size) 25 (tbCells (.slice a t.held.length cap) (.slice a6 l6.length c6)), .ob b3 29 (grCells g), .ob b4 25 (tbCells (.slice none 0 0) (.slice none 0 0)), .rd R, .sl ((.slice a6 l6.length c6)) 29 4 (l6.length) (grRow l6)] w323) := HS324.out.pull [0, 1, 2, 3, 6] rfl (pull_nd HS324.out.nd [0, 1, 2, 3, 6] rfl (by decide))
      clear HS324
      obtain ⟨R7, h7, hn7, hs7⟩ := Hp.ownrd2 (A := [.ob (w.heap.size) 25 (tbCells (.slice a t.held.length cap) (.slice a6 l6.length c6)), .ob b3 29 (grCells g), .ob b4 25 (tbCells (.slice none 0 0) (.slice none 0 0)), .rd R]) HS325.out
      go_wp2_with fail
      go_meet
      exact ⟨a6, c6, R7, h7, hn7, hs7⟩
     ·rw [if_pos (by rfl)]
      refine wp_load_whole 25 (.tmp 2) (w.heap.size) (tbCells (.slice a t.held.length cap) (.slice a2 t.wait.length cap2)) 25 HUT.out rfl rfl ((HS319.out).get 0 rfl) rfl (info_tb) ?_
      have HS320 := HS319
      refine hK.out _ _ ((fun j v hv => by rw [Nat.zero_add]; exact (HS320.out).at 1 rfl j hv)) (fun hHeld => ?_)
      clear hK K
      try simp only [z0, z1, z2, z3]
      refine tn 2 qPk14_17 (fun K hK => ?_)
      go_simp
      go_wp2_with (go_at_call 43; refine (HCl.out _ (HS320.out).old).mono ?_; rintro e w320 ⟨u0, rfl, hb, ho⟩)
      have HS321 : Hid (Hp w [.ob (w.heap.size) 25 (tbCells (.slice a t.held.length cap) (.slice a2 t.wait.length cap2)), .ob b3 29 (grCells g), .ob b4 25 (tbCells (.slice none 0 0) (.slice none 0 0)), .rd R, .ob B87 29 (grCells wx), .ob B318 29 (([grCells g] : List (List Value)).flatMap id), .sl u0 29 4 (t.wait.length) (grRow t.wait)] w320) := (HS320.out).addown hb ho
      refine hK.out _ _ ((fun j v hv => by rw [Nat.zero_add]; exact (HS321.out).at 1 rfl j hv)) (fun hHeld => ?_)
      clear hK K hb ho
      try simp only [z0, z1, z2, z3]
      refine tn 5 qPk14_18 (fun K hK => ?_)
      go_simp
      go_wp2_with (go_at_call 44; refine (HTu1.out _ (HS321.out).old).mono ?_; rintro e w321 ⟨rfl, hb⟩)
      have HS322 := Lib.hid ((HS321.out).calls hb)
      refine hK.out _ _ ((fun j v hv => by rw [Nat.zero_add]; exact (HS322.out).at 1 rfl j hv)) (fun hHeld => ?_)
      clear hK K hb
      try simp only [z0, z1, z2, z3]
      refine tn 8 qPk14_19 (fun K hK => ?_)
      go_simp
      go_wp2_with (go_at_call 42; refine (insert_own t.wait g p u0 w.heap.size B318 _ HPl.out ((HS322.out).own 6 rfl) ((HS322.out).get 5 rfl) (fun e => (HS322.out).ne 6 5 rfl rfl (by decide) e rfl rfl) (HS322.out).old.size (by have := HLn.out; omega)).mono ?_; rintro e w322 ⟨u6, rfl, ho6, hg6, hub6⟩)
      rw [HL6.out] at ho6
      have HS323 : Hid (Hp w [.ob (w.heap.size) 25 (tbCells (.slice a t.held.length cap) (.slice a2 t.wait.length cap2)), .ob b3 29 (grCells g), .ob b4 25 (tbCells (.slice none 0 0) (.slice none 0 0)), .rd R, .ob B87 29 (grCells wx), .ob B318 29 (([grCells g] : List (List Value)).flatMap id), .sl u6 29 4 (l6.length) (grRow l6)] w322) := (HS322.out).grown2 6 rfl ho6 hg6 (fun b hb => hub6.elim (fun h => .inl (h ▸ hb)) (fun h => .inr (by rw [h] at hb; exact Nat.le_of_eq (Option.some.inj hb))))
      refine hK.out _ _ ((fun j v hv => by rw [Nat.zero_add]; exact (HS323.out).at 1 rfl j hv)) (fun hHeld => ?_)
      clear hK K ho6 hg6 hub6
      try simp only [z0, z1, z2, z3]
      refine tk 9 qPk14_20 (some 62) (v := ?q1211v) (Or.inl ⟨by rfl, ?q1211h⟩) hHeld ?q1211r
      case q1211h => (intro wq hSw; clear hSw; go_simp; try with_reducible rfl)
      try simp only [z0, z1, z2, z3]
      refine tn 10 qPk14_21 (fun K hK => ?_)
      rw [if_pos (by rfl)]
      obtain ⟨a6, c6, rfl⟩ := own_slice ((HS323.out).own 6 rfl)
      have q5 := (HS323.out).at 0 rfl 1 rfl
      have f5 := (HS323.out).frozen 0 rfl 1
      go_simp
      clear q5 f5
      have HS324 : Hid (Hp w [.ob (w.heap.size) 25 (tbCells (.slice a t.held.length cap) (.slice a6 l6.length c6)), .ob b3 29 (grCells g), .ob b4 25 (tbCells (.slice none 0 0) (.slice none 0 0)), .rd R, .ob B87 29 (grCells wx), .ob B318 29 (([grCells g] : List (List Value)).flatMap id), .sl ((.slice a6 l6.length c6)) 29 4 (l6.length) (grRow l6)] (w322.setCell ⟨w.heap.size, 1, none⟩ (.slice a6 l6.length c6))) := (HS323.out).set 0 rfl 1 (.slice a6 l6.length c6)
      refine hK.out _ _ ((fun j v hv => by rw [Nat.zero_add]; exact (HS324.out).at 1 rfl j hv)) (fun hHeld => ?_)
      clear hK K
      generalize (w322.setCell ⟨w.heap.size, 1, none⟩ (.slice a6 l6.length c6)) = w323 at *
      try simp only [z0, z1, z2, z3]
      refine wpAnyH_done (by kernel_rfl) ?_ _
      clear hHeld
      have HS325 : Hid (Hp w [.ob (w.heap.size) 25 (tbCells (.slice a t.held.length cap) (.slice a6 l6.length c6)), .ob b3 29 (grCells g), .ob b4 25 (tbCells (.slice none 0 0) (.slice none 0 0)), .rd R, .sl ((.slice a6 l6.length c6)) 29 4 (l6.length) (grRow l6)] w323) := HS324.out.pull [0, 1, 2, 3, 6] rfl (pull_nd HS324.out.nd [0, 1, 2, 3, 6] rfl (by decide))
      clear HS324
      obtain ⟨R7, h7, hn7, hs7⟩ := Hp.ownrd2 (A := [.ob (w.heap.size) 25 (tbCells (.slice a t.held.length cap) (.slice a6 l6.length c6)), .ob b3 29 (grCells g), .ob b4 25 (tbCells (.slice none 0 0) (.slice none 0 0)), .rd R]) HS325.out
      go_wp2_with fail
      go_meet
      exact ⟨a6, c6, R7, h7, hn7, hs7⟩
   ·rw [if_pos (by rfl)]
    refine wp_load_whole 25 (.tmp 2) (w.heap.size) (tbCells (.slice a t.held.length cap) (.slice a2 t.wait.length cap2)) 25 HUT.out rfl rfl (((HS272.out).drew).get 0 rfl) rfl (info_tb) ?_
    have HS318 : Hid (Hp w [.ob (w.heap.size) 25 (tbCells (.slice a t.held.length cap) (.slice a2 t.wait.length cap2)), .ob b3 29 (grCells g), .ob b4 25 (tbCells (.slice none 0 0) (.slice none 0 0)), .rd R, .ob B87 29 (grCells wx)] (w272.drew)) := (HS272.out).drew
    refine hK.out _ _ ((fun j v hv => by rw [Nat.zero_add]; exact (HS318.out).at 1 rfl j hv)) (fun hHeld => ?_)
    clear hK K
    generalize w272.drew = w318 at *
    try simp only [z0, z1, z2, z3]
    refine wpAnyH_ready (rs := [1, 7]) (by kernel_rfl) (by simp) ?_
    refine AllReadyH.cons (o := qPk14_14) rfl (fun K hK => ?_) (AllReadyH.cons (o := qPk14_16) rfl (fun K hK => ?_) (AllReadyH.nil))
    ·have q0 := (HS318.out).at 0 rfl 1 rfl
     go_simp
     clear q0
     have HS319 := HS318
     refine hK.out _ _ ((fun j v hv => by rw [Nat.zero_add]; exact (HS319.out).at 1 rfl j hv)) (fun hHeld => ?_)
     clear hK K
     try simp only [z0, z1, z2, z3]
     refine wpAnyH_ready (rs := [2, 7]) (by kernel_rfl) (by simp) ?_
     refine AllReadyH.cons (o := qPk14_17) rfl (fun K hK => ?_) (AllReadyH.cons (o := qPk14_16) rfl (fun K hK => ?_) (AllReadyH.nil))
     ·go_simp
      go_wp2_with (go_at_call 43; refine (HCl.out _ (HS319.out).old).mono ?_; rintro e w319 ⟨u0, rfl, hb, ho⟩)
      have HS320 : Hid (Hp w [.ob (w.heap.size) 25 (tbCells (.slice a t.held.length cap) (.slice a2 t.wait.length cap2)), .ob b3 29 (grCells g), .ob b4 25 (tbCells (.slice none 0 0) (.slice none 0 0)), .rd R, .ob B87 29 (grCells wx), .sl u0 29 4 (t.wait.length) (grRow t.wait)] w319) := (HS319.out).addown hb ho
      refine hK.out _ _ ((fun j v hv => by rw [Nat.zero_add]; exact (HS320.out).at 1 rfl j hv)) (fun hHeld => ?_)
      clear hK K hb ho
      try simp only [z0, z1, z2, z3]
      refine wpAnyH_ready (rs := [5, 7]) (by kernel_rfl) (by simp) ?_
      refine AllReadyH.cons (o := qPk14_18) rfl (fun K hK => ?_) (AllReadyH.cons (o := qPk14_16) rfl (fun K hK => ?_) (AllReadyH.nil))
      ·go_simp
       go_wp2_with (go_at_call 44; refine (HTu1.out _ (HS320.out).old).mono ?_; rintro e w320 ⟨rfl, hb⟩)
       have HS321 := Lib.hid ((HS320.out).calls hb)
       refine hK.out _ _ ((fun j v hv => by rw [Nat.zero_add]; exact (HS321.out).at 1 rfl j hv)) (fun hHeld => ?_)
       clear hK K hb
       try simp only [z0, z1, z2, z3]
       refine tn 7 qPk14_16 (fun K hK => ?_)
       rw [if_pos (by rfl)]
       refine wp_build_obs rfl elem_gr HUX.out [grCells g] (List.forall_mem_cons.2 ⟨rfl, (fun _ h => absurd h List.not_mem_nil)⟩) (Nat.succ_pos _) (by simp only [List.length_cons, List.length_nil]; omega) rfl (by simp only [List.map_toArray, List.map_cons, List.map_nil, List.zipIdx_cons, List.zipIdx_nil]; exact rfl) ?_
       have HS322 : Hid (Hp w [.ob (w.heap.size) 25 (tbCells (.slice a t.held.length cap) (.slice a2 t.wait.length cap2)), .ob b3 29 (grCells g), .ob b4 25 (tbCells (.slice none 0 0) (.slice none 0 0)), .rd R, .ob B87 29 (grCells wx), .sl u0 29 4 (t.wait.length) (grRow t.wait), .ob (w320.heap.size) 29 (([grCells g] : List (List Value)).flatMap id)] (w320.alloc (.cells (([grCells g] : List (List Value)).flatMap id).toArray 29))) := (HS321.out).put 29 (([grCells g] : List (List Value)).flatMap id)
       refine hK.out _ _ ((fun j v hv => by rw [Nat.zero_add]; exact (HS322.out).at 1 rfl j hv)) (fun hHeld => ?_)
       clear hK K
       generalize (w320.alloc (.cells (([grCells g] : List (List Value)).flatMap id).toArray 29)) = w321 at *
       generalize w320.heap.size = B318 at *
       try simp only [z0, z1, z2, z3]
       refine tn 8 qPk14_19 (fun K hK => ?_)
       go_simp
       go_wp2_with (go_at_call 42; refine (insert_own t.wait g p u0 w.heap.size B318 _ HPl.out ((HS322.out).own 5 rfl) ((HS322.out).get 6 rfl) (fun e => (HS322.out).ne 5 6 rfl rfl (by decide) e rfl rfl) (HS322.out).old.size (by have := HLn.out; omega)).mono ?_; rintro e w322 ⟨u6, rfl, ho6, hg6, hub6⟩)
       rw [HL6.out] at ho6
       have HS323 : Hid (Hp w [.ob (w.heap.size) 25 (tbCells (.slice a t.held.length cap) (.slice a2 t.wait.length cap2)), .ob b3 29 (grCells g), .ob b4 25 (tbCells (.slice none 0 0) (.slice none 0 0)), .rd R, .ob B87 29 (grCells wx), .sl u6 29 4 (l6.length) (grRow l6), .ob B318 29 (([grCells g] : List (List Value)).flatMap id)] w322) := (HS322.out).grown2 5 rfl ho6 hg6 (fun b hb => hub6.elim (fun h => .inl (h ▸ hb)) (fun h => .inr (by rw [h] at hb; exact Nat.le_of_eq (Option.some.inj hb))))
       refine hK.out _ _ ((fun j v hv => by rw [Nat.zero_add]; exact (HS323.out).at 1 rfl j hv)) (fun hHeld => ?_)
       clear hK K ho6 hg6 hub6
       try simp only [z0, z1, z2, z3]
       refine tk 9 qPk14_20 (some 62) (v := ?q1212v) (Or.inl ⟨by rfl, ?q1212h⟩) hHeld ?q1212r
       case q1212h => (intro wq hSw; clear hSw; go_simp; try with_reducible rfl)
       try simp only [z0, z1, z2, z3]
       refine tn 10 qPk14_21 (fun K hK => ?_)
       rw [if_pos (by rfl)]
       obtain ⟨a6, c6, rfl⟩ := own_slice ((HS323.out).own 5 rfl)
       have q5 := (HS323.out).at 0 rfl 1 rfl
       have f5 := (HS323.out).frozen 0 rfl 1
       go_simp
       clear q5 f5
       have HS324 : Hid (Hp w [.ob (w.heap.size) 25 (tbCells (.slice a t.held.length cap) (.slice a6 l6.length c6)), .ob b3 29 (grCells g), .ob b4 25 (tbCells (.slice none 0 0) (.slice none 0 0)), .rd R, .ob B87 29 (grCells wx), .sl ((.slice a6 l6.length c6)) 29 4 (l6.length) (grRow l6), .ob B318 29 (([grCells g] : List (List Value)).flatMap id)] (w322.setCell ⟨w.heap.size, 1, none⟩ (.slice a6 l6.length c6))) := (HS323.out).set 0 rfl 1 (.slice a6 l6.length c6)
       refine hK.out _ _ ((fun j v hv => by rw [Nat.zero_add]; exact (HS324.out).at 1 rfl j hv)) (fun hHeld => ?_)
       clear hK K
       generalize (w322.setCell ⟨w.heap.size, 1, none⟩ (.slice a6 l6.length c6)) = w323 at *
       try simp only [z0, z1, z2, z3]
       refine wpAnyH_done (by kernel_rfl) ?_ _
       clear hHeld
       have HS325 : Hid (Hp w [.ob (w.heap.size) 25 (tbCells (.slice a t.held.length cap) (.slice a6 l6.length c6)), .ob b3 29 (grCells g), .ob b4 25 (tbCells (.slice none 0 0) (.slice none 0 0)), .rd R, .sl ((.slice a6 l6.length c6)) 29 4 (l6.length) (grRow l6)] w323) := HS324.out.pull [0, 1, 2, 3, 5] rfl (pull_nd HS324.out.nd [0, 1, 2, 3, 5] rfl (by decide))
       clear HS324
       obtain ⟨R7, h7, hn7, hs7⟩ := Hp.ownrd2 (A := [.ob (w.heap.size) 25 (tbCells (.slice a t.held.length cap) (.slice a6 l6.length c6)), .ob b3 29 (grCells g), .ob b4 25 (tbCells (.slice none 0 0) (.slice none 0 0)), .rd R]) HS325.out
       go_wp2_with fail
       go_meet
       exact ⟨a6, c6, R7, h7, hn7, hs7⟩
      ·rw [if_pos (by rfl)]
       refine wp_build_obs rfl elem_gr HUX.out [grCells g] (List.forall_mem_cons.2 ⟨rfl, (fun _ h => absurd h List.not_mem_nil)⟩) (Nat.succ_pos _) (by simp only [List.length_cons, List.length_nil]; omega) rfl (by simp only [List.map_toArray, List.map_cons, List.map_nil, List.zipIdx_cons, List.zipIdx_nil]; exact rfl) ?_
       have HS321 : Hid (Hp w [.ob (w.heap.size) 25 (tbCells (.slice a t.held.length cap) (.slice a2 t.wait.length cap2)), .ob b3 29 (grCells g), .ob b4 25 (tbCells (.slice none 0 0) (.slice none 0 0)), .rd R, .ob B87 29 (grCells wx), .sl u0 29 4 (t.wait.length) (grRow t.wait), .ob (w319.heap.size) 29 (([grCells g] : List (List Value)).flatMap id)] (w319.alloc (.cells (([grCells g] : List (List Value)).flatMap id).toArray 29))) := (HS320.out).put 29 (([grCells g] : List (List Value)).flatMap id)
       refine hK.out _ _ ((fun j v hv => by rw [Nat.zero_add]; exact (HS321.out).at 1 rfl j hv)) (fun hHeld => ?_)
       clear hK K
       generalize (w319.alloc (.cells (([grCells g] : List (List Value)).flatMap id).toArray 29)) = w320 at *
       generalize w319.heap.size = B318 at *
       try simp only [z0, z1, z2, z3]
       refine tn 5 qPk14_18 (fun K hK => ?_)
       go_simp
       go_wp2_with (go_at_call 44; refine (HTu1.out _ (HS321.out).old).mono ?_; rintro e w321 ⟨rfl, hb⟩)
       have HS322 := Lib.hid ((HS321.out).calls hb)
       refine hK.out _ _ ((fun j v hv => by rw [Nat.zero_add]; exact (HS322.out).at 1 rfl j hv)) (fun hHeld => ?_)
       clear hK K hb
       try simp only [z0, z1, z2, z3]
       refine tn 8 qPk14_19 (fun K hK => ?_)
       go_simp
       go_wp2_with (go_at_call 42; refine (insert_own t.wait g p u0 w.heap.size B318 _ HPl.out ((HS322.out).own 5 rfl) ((HS322.out).get 6 rfl) (fun e => (HS322.out).ne 5 6 rfl rfl (by decide) e rfl rfl) (HS322.out).old.size (by have := HLn.out; omega)).mono ?_; rintro e w322 ⟨u6, rfl, ho6, hg6, hub6⟩)
       rw [HL6.out] at ho6
       have HS323 : Hid (Hp w [.ob (w.heap.size) 25 (tbCells (.slice a t.held.length cap) (.slice a2 t.wait.length cap2)), .ob b3 29 (grCells g), .ob b4 25 (tbCells (.slice none 0 0) (.slice none 0 0)), .rd R, .ob B87 29 (grCells wx), .sl u6 29 4 (l6.length) (grRow l6), .ob B318 29 (([grCells g] : List (List Value)).flatMap id)] w322) := (HS322.out).grown2 5 rfl ho6 hg6 (fun b hb => hub6.elim (fun h => .inl (h ▸ hb)) (fun h => .inr (by rw [h] at hb; exact Nat.le_of_eq (Option.some.inj hb))))
       refine hK.out _ _ ((fun j v hv => by rw [Nat.zero_add]; exact (HS323.out).at 1 rfl j hv)) (fun hHeld => ?_)
       clear hK K ho6 hg6 hub6
       try simp only [z0, z1, z2, z3]
       refine tk 9 qPk14_20 (some 62) (v := ?q1213v) (Or.inl ⟨by rfl, ?q1213h⟩) hHeld ?q1213r
       case q1213h => (intro wq hSw; clear hSw; go_simp; try with_reducible rfl)
       try simp only [z0, z1, z2, z3]
       refine tn 10 qPk14_21 (fun K hK => ?_)
       rw [if_pos (by rfl)]
       obtain ⟨a6, c6, rfl⟩ := own_slice ((HS323.out).own 5 rfl)
       have q5 := (HS323.out).at 0 rfl 1 rfl
       have f5 := (HS323.out).frozen 0 rfl 1
       go_simp
       clear q5 f5
       have HS324 : Hid (Hp w [.ob (w.heap.size) 25 (tbCells (.slice a t.held.length cap) (.slice a6 l6.length c6)), .ob b3 29 (grCells g), .ob b4 25 (tbCells (.slice none 0 0) (.slice none 0 0)), .rd R, .ob B87 29 (grCells wx), .sl ((.slice a6 l6.length c6)) 29 4 (l6.length) (grRow l6), .ob B318 29 (([grCells g] : List (List Value)).flatMap id)] (w322.setCell ⟨w.heap.size, 1, none⟩ (.slice a6 l6.length c6))) := (HS323.out).set 0 rfl 1 (.slice a6 l6.length c6)
       refine hK.out _ _ ((fun j v hv => by rw [Nat.zero_add]; exact (HS324.out).at 1 rfl j hv)) (fun hHeld => ?_)
       clear hK K
       generalize (w322.setCell ⟨w.heap.size, 1, none⟩ (.slice a6 l6.length c6)) = w323 at *
       try simp only [z0, z1, z2, z3]
       refine wpAnyH_done (by kernel_rfl) ?_ _
       clear hHeld
       have HS325 : Hid (Hp w [.ob (w.heap.size) 25 (tbCells (.slice a t.held.length cap) (.slice a6 l6.length c6)), .ob b3 29 (grCells g), .ob b4 25 (tbCells (.slice none 0 0) (.slice none 0 0)), .rd R, .sl ((.slice a6 l6.length c6)) 29 4 (l6.length) (grRow l6)] w323) := HS324.out.pull [0, 1, 2, 3, 5] rfl (pull_nd HS324.out.nd [0, 1, 2, 3, 5] rfl (by decide))
       clear HS324
       obtain ⟨R7, h7, hn7, hs7⟩ := Hp.ownrd2 (A := [.ob (w.heap.size) 25 (tbCells (.slice a t.held.length cap) (.slice a6 l6.length c6)), .ob b3 29 (grCells g), .ob b4 25 (tbCells (.slice none 0 0) (.slice none 0 0)), .rd R]) HS325.out
       go_wp2_with fail
       go_meet
       exact ⟨a6, c6, R7, h7, hn7, hs7⟩
     ·rw [if_pos (by rfl)]
      refine wp_build_obs rfl elem_gr HUX.out [grCells g] (List.forall_mem_cons.2 ⟨rfl, (fun _ h => absurd h List.not_mem_nil)⟩) (Nat.succ_pos _) (by simp only [List.length_cons, List.length_nil]; omega) rfl (by simp only [List.map_toArray, List.map_cons, List.map_nil, List.zipIdx_cons, List.zipIdx_nil]; exact rfl) ?_
      have HS320 : Hid (Hp w [.ob (w.heap.size) 25 (tbCells (.slice a t.held.length cap) (.slice a2 t.wait.length cap2)), .ob b3 29 (grCells g), .ob b4 25 (tbCells (.slice none 0 0) (.slice none 0 0)), .rd R, .ob B87 29 (grCells wx), .ob (w318.heap.size) 29 (([grCells g] : List (List Value)).flatMap id)] (w318.alloc (.cells (([grCells g] : List (List Value)).flatMap id).toArray 29))) := (HS319.out).put 29 (([grCells g] : List (List Value)).flatMap id)
      refine hK.out _ _ ((fun j v hv => by rw [Nat.zero_add]; exact (HS320.out).at 1 rfl j hv)) (fun hHeld => ?_)
      clear hK K
      generalize (w318.alloc (.cells (([grCells g] : List (List Value)).flatMap id).toArray 29)) = w319 at *
      generalize w318.heap.size = B318 at *
      try simp only [z0, z1, z2, z3]
      refine tn 2 qPk14_17 (fun K hK => ?_)
      go_simp
      go_wp2_with (go_at_call 43; refine (HCl.out _ (HS320.out).old).mono ?_; rintro e w320 ⟨u0, rfl, hb, ho⟩)
      have HS321 : Hid (Hp w [.ob (w.heap.size) 25 (tbCells (.slice a t.held.length cap) (.slice a2 t.wait.length cap2)), .ob b3 29 (grCells g), .ob b4 25 (tbCells (.slice none 0 0) (.slice none 0 0)), .rd R, .ob B87 29 (grCells wx), .ob B318 29 (([grCells g] : List (List Value)).flatMap id), .sl u0 29 4 (t.wait.length) (grRow t.wait)] w320) := (HS320.out).addown hb ho
      refine hK.out _ _ ((fun j v hv => by rw [Nat.zero_add]; exact (HS321.out).at 1 rfl j hv)) (fun hHeld => ?_)
      clear hK K hb ho
      try simp only [z0, z1, z2, z3]
      refine tn 5 qPk14_18 (fun K hK => ?_)
      go_simp
      go_wp2_with (go_at_call 44; refine (HTu1.out _ (HS321.out).old).mono ?_; rintro e w321 ⟨rfl, hb⟩)
      have HS322 := Lib.hid ((HS321.out).calls hb)
      refine hK.out _ _ ((fun j v hv => by rw [Nat.zero_add]; exact (HS322.out).at 1 rfl j hv)) (fun hHeld => ?_)
      clear hK K hb
      try simp only [z0, z1, z2, z3]
      refine tn 8 qPk14_19 (fun K hK => ?_)
      go_simp
      go_wp2_with (go_at_call 42; refine (insert_own t.wait g p u0 w.heap.size B318 _ HPl.out ((HS322.out).own 6 rfl) ((HS322.out).get 5 rfl) (fun e => (HS322.out).ne 6 5 rfl rfl (by decide) e rfl rfl) (HS322.out).old.size (by have := HLn.out; omega)).mono ?_; rintro e w322 ⟨u6, rfl, ho6, hg6, hub6⟩)
      rw [HL6.out] at ho6
      have HS323 : Hid (Hp w [.ob (w.heap.size) 25 (tbCells (.slice a t.held.length cap) (.slice a2 t.wait.length cap2)), .ob b3 29 (grCells g), .ob b4 25 (tbCells (.slice none 0 0) (.slice none 0 0)), .rd R, .ob B87 29 (grCells wx), .ob B318 29 (([grCells g] : List (List Value)).flatMap id), .sl u6 29 4 (l6.length) (grRow l6)] w322) := (HS322.out).grown2 6 rfl ho6 hg6 (fun b hb => hub6.elim (fun h => .inl (h ▸ hb)) (fun h => .inr (by rw [h] at hb; exact Nat.le_of_eq (Option.some.inj hb))))
      refine hK.out _ _ ((fun j v hv => by rw [Nat.zero_add]; exact (HS323.out).at 1 rfl j hv)) (fun hHeld => ?_)
      clear hK K ho6 hg6 hub6
      try simp only [z0, z1, z2, z3]
      refine tk 9 qPk14_20 (some 62) (v := ?q1214v) (Or.inl ⟨by rfl, ?q1214h⟩) hHeld ?q1214r
      case q1214h => (intro wq hSw; clear hSw; go_simp; try with_reducible rfl)
      try simp only [z0, z1, z2, z3]
      refine tn 10 qPk14_21 (fun K hK => ?_)
      rw [if_pos (by rfl)]
      obtain ⟨a6, c6, rfl⟩ := own_slice ((HS323.out).own 6 rfl)
      have q5 := (HS323.out).at 0 rfl 1 rfl
      have f5 := (HS323.out).frozen 0 rfl 1
      go_simp
      clear q5 f5
      have HS324 : Hid (Hp w [.ob (w.heap.size) 25 (tbCells (.slice a t.held.length cap) (.slice a6 l6.length c6)), .ob b3 29 (grCells g), .ob b4 25 (tbCells (.slice none 0 0) (.slice none 0 0)), .rd R, .ob B87 29 (grCells wx), .ob B318 29 (([grCells g] : List (List Value)).flatMap id), .sl ((.slice a6 l6.length c6)) 29 4 (l6.length) (grRow l6)] (w322.setCell ⟨w.heap.size, 1, none⟩ (.slice a6 l6.length c6))) := (HS323.out).set 0 rfl 1 (.slice a6 l6.length c6)
      refine hK.out _ _ ((fun j v hv => by rw [Nat.zero_add]; exact (HS324.out).at 1 rfl j hv)) (fun hHeld => ?_)
      clear hK K
      generalize (w322.setCell ⟨w.heap.size, 1, none⟩ (.slice a6 l6.length c6)) = w323 at *
      try simp only [z0, z1, z2, z3]
      refine wpAnyH_done (by kernel_rfl) ?_ _
      clear hHeld
      have HS325 : Hid (Hp w [.ob (w.heap.size) 25 (tbCells (.slice a t.held.length cap) (.slice a6 l6.length c6)), .ob b3 29 (grCells g), .ob b4 25 (tbCells (.slice none 0 0) (.slice none 0 0)), .rd R, .sl ((.slice a6 l6.length c6)) 29 4 (l6.length) (grRow l6)] w323) := HS324.out.pull [0, 1, 2, 3, 6] rfl (pull_nd HS324.out.nd [0, 1, 2, 3, 6] rfl (by decide))
      clear HS324
      obtain ⟨R7, h7, hn7, hs7⟩ := Hp.ownrd2 (A := [.ob (w.heap.size) 25 (tbCells (.slice a t.held.length cap) (.slice a6 l6.length c6)), .ob b3 29 (grCells g), .ob b4 25 (tbCells (.slice none 0 0) (.slice none 0 0)), .rd R]) HS325.out
      go_wp2_with fail
      go_meet
      exact ⟨a6, c6, R7, h7, hn7, hs7⟩
    ·rw [if_pos (by rfl)]
     refine wp_build_obs rfl elem_gr HUX.out [grCells g] (List.forall_mem_cons.2 ⟨rfl, (fun _ h => absurd h List.not_mem_nil)⟩) (Nat.succ_pos _) (by simp only [List.length_cons, List.length_nil]; omega) rfl (by simp only [List.map_toArray, List.map_cons, List.map_nil, List.zipIdx_cons, List.zipIdx_nil]; exact rfl) ?_
     have HS319 : Hid (Hp w [.ob (w.heap.size) 25 (tbCells (.slice a t.held.length cap) (.slice a2 t.wait.length cap2)), .ob b3 29 (grCells g), .ob b4 25 (tbCells (.slice none 0 0) (.slice none 0 0)), .rd R, .ob B87 29 (grCells wx), .ob (w318.heap.size) 29 (([grCells g] : List (List Value)).flatMap id)] (w318.alloc (.cells (([grCells g] : List (List Value)).flatMap id).toArray 29))) := (HS318.out).put 29 (([grCells g] : List (List Value)).flatMap id)
     refine hK.out _ _ ((fun j v hv => by rw [Nat.zero_add]; exact (HS319.out).at 1 rfl j hv)) (fun hHeld => ?_)
     clear hK K
     generalize (w318.alloc (.cells (([grCells g] : List (List Value)).flatMap id).toArray 29)) = w319 at *
     generalize w318.heap.size = B318 at *
     try simp only [z0, z1, z2, z3]
     refine tn 1 qPk14_14 (fun K hK => ?_)
     have q0 := (HS319.out).at 0 rfl 1 rfl
     go_simp
     clear q0
     have HS320 := HS319
     refine hK.out _ _ ((fun j v hv => by rw [Nat.zero_add]; exact (HS320.out).at 1 rfl j hv)) (fun hHeld => ?_)
     clear hK K
     try simp only [z0, z1, z2, z3]
     refine tn 2 qPk14_17 (fun K hK => ?_)
     go_simp
     go_wp2_with (go_at_call 43; refine (HCl.out _ (HS320.out).old).mono ?_; rintro e w320 ⟨u0, rfl, hb, ho⟩)
     have HS321 : Hid (Hp w [.ob (w.heap.size) 25 (tbCells (.slice a t.held.length cap) (.slice a2 t.wait.length cap2)), .ob b3 29 (grCells g), .ob b4 25 (tbCells (.slice none 0 0) (.slice none 0 0)), .rd R, .ob B87 29 (grCells wx), .ob B318 29 (([grCells g] : List (List Value)).flatMap id), .sl u0 29 4 (t.wait.length) (grRow t.wait)] w320) := (HS320.out).addown hb ho
     refine hK.out _ _ ((fun j v hv => by rw [Nat.zero_add]; exact (HS321.out).at 1 rfl j hv)) (fun hHeld => ?_)
     clear hK K hb ho
     try simp only [z0, z1, z2, z3]
     refine tn 5 qPk14_18 (fun K hK => ?_)
     go_simp
     go_wp2_with (go_at_call 44; refine (HTu1.out _ (HS321.out).old).mono ?_; rintro e w321 ⟨rfl, hb⟩)
     have HS322 := Lib.hid ((HS321.out).calls hb)
     refine hK.out _ _ ((fun j v hv => by rw [Nat.zero_add]; exact (HS322.out).at 1 rfl j hv)) (fun hHeld => ?_)
     clear hK K hb
     try simp only [z0, z1, z2, z3]
     refine tn 8 qPk14_19 (fun K hK => ?_)
     go_simp
     go_wp2_with (go_at_call 42; refine (insert_own t.wait g p u0 w.heap.size B318 _ HPl.out ((HS322.out).own 6 rfl) ((HS322.out).get 5 rfl) (fun e => (HS322.out).ne 6 5 rfl rfl (by decide) e rfl rfl) (HS322.out).old.size (by have := HLn.out; omega)).mono ?_; rintro e w322 ⟨u6, rfl, ho6, hg6, hub6⟩)
     rw [HL6.out] at ho6
     have HS323 : Hid (Hp w [.ob (w.heap.size) 25 (tbCells (.slice a t.held.length cap) (.slice a2 t.wait.length cap2)), .ob b3 29 (grCells g), .ob b4 25 (tbCells (.slice none 0 0) (.slice none 0 0)), .rd R, .ob B87 29 (grCells wx), .ob B318 29 (([grCells g] : List (List Value)).flatMap id), .sl u6 29 4 (l6.length) (grRow l6)] w322) := (HS322.out).grown2 6 rfl ho6 hg6 (fun b hb => hub6.elim (fun h => .inl (h ▸ hb)) (fun h => .inr (by rw [h] at hb; exact Nat.le_of_eq (Option.some.inj hb))))
     refine hK.out _ _ ((fun j v hv => by rw [Nat.zero_add]; exact (HS323.out).at 1 rfl j hv)) (fun hHeld => ?_)
     clear hK K ho6 hg6 hub6
     try simp only [z0, z1, z2, z3]
     refine tk 9 qPk14_20 (some 62) (v := ?q1215v) (Or.inl ⟨by rfl, ?q1215h⟩) hHeld ?q1215r
     case q1215h => (intro wq hSw; clear hSw; go_simp; try with_reducible rfl)
     try simp only [z0, z1, z2, z3]
     refine tn 10 qPk14_21 (fun K hK => ?_)
     rw [if_pos (by rfl)]
     obtain ⟨a6, c6, rfl⟩ := own_slice ((HS323.out).own 6 rfl)
     have q5 := (HS323.out).at 0 rfl 1 rfl
     have f5 := (HS323.out).frozen 0 rfl 1
     go_simp
     clear q5 f5
     have HS324 : Hid (Hp w [.ob (w.heap.size) 25 (tbCells (.slice a t.held.length cap) (.slice a6 l6.length c6)), .ob b3 29 (grCells g), .ob b4 25 (tbCells (.slice none 0 0) (.slice none 0 0)), .rd R, .ob B87 29 (grCells wx), .ob B318 29 (([grCells g] : List (List Value)).flatMap id), .sl ((.slice a6 l6.length c6)) 29 4 (l6.length) (grRow l6)] (w322.setCell ⟨w.heap.size, 1, none⟩ (.slice a6 l6.length c6))) := (HS323.out).set 0 rfl 1 (.slice a6 l6.length c6)
     refine hK.out _ _ ((fun j v hv => by rw [Nat.zero_add]; exact (HS324.out).at 1 rfl j hv)) (fun hHeld => ?_)
     clear hK K
     generalize (w322.setCell ⟨w.heap.size, 1, none⟩ (.slice a6 l6.length c6)) = w323 at *
     try simp only [z0, z1, z2, z3]
     refine wpAnyH_done (by kernel_rfl) ?_ _
     clear hHeld
     have HS325 : Hid (Hp w [.ob (w.heap.size) 25 (tbCells (.slice a t.held.length cap) (.slice a6 l6.length c6)), .ob b3 29 (grCells g), .ob b4 25 (tbCells (.slice none 0 0) (.slice none 0 0)), .rd R, .sl ((.slice a6 l6.length c6)) 29 4 (l6.length) (grRow l6)] w323) := HS324.out.pull [0, 1, 2, 3, 6] rfl (pull_nd HS324.out.nd [0, 1, 2, 3, 6] rfl (by decide))
     clear HS324
     obtain ⟨R7, h7, hn7, hs7⟩ := Hp.ownrd2 (A := [.ob (w.heap.size) 25 (tbCells (.slice a t.held.length cap) (.slice a6 l6.length c6)), .ob b3 29 (grCells g), .ob b4 25 (tbCells (.slice none 0 0) (.slice none 0 0)), .rd R]) HS325.out
     go_wp2_with fail
     go_meet
     exact ⟨a6, c6, R7, h7, hn7, hs7⟩
   ·rw [if_pos (by rfl)]
    refine wp_build_obs rfl elem_gr HUX.out [grCells g] (List.forall_mem_cons.2 ⟨rfl, (fun _ h => absurd h List.not_mem_nil)⟩) (Nat.succ_pos _) (by simp only [List.length_cons, List.length_nil]; omega) rfl (by simp only [List.map_toArray, List.map_cons, List.map_nil, List.zipIdx_cons, List.zipIdx_nil]; exact rfl) ?_
    have HS318 : Hid (Hp w [.ob (w.heap.size) 25 (tbCells (.slice a t.held.length cap) (.slice a2 t.wait.length cap2)), .ob b3 29 (grCells g), .ob b4 25 (tbCells (.slice none 0 0) (.slice none 0 0)), .rd R, .ob B87 29 (grCells wx), .ob (w272.drew.heap.size) 29 (([grCells g] : List (List Value)).flatMap id)] (w272.drew.alloc (.cells (([grCells g] : List (List Value)).flatMap id).toArray 29))) := ((HS272.out).drew).put 29 (([grCells g] : List (List Value)).flatMap id)
    refine hK.out _ _ ((fun j v hv => by rw [Nat.zero_add]; exact (HS318.out).at 1 rfl j hv)) (fun hHeld => ?_)
    clear hK K
    generalize (w272.drew.alloc (.cells (([grCells g] : List (List Value)).flatMap id).toArray 29)) = w318 at *
    generalize w272.drew.heap.size = B318 at *
    try simp only [z0, z1, z2, z3]
    refine wpAnyH_ready (rs := [1, 3]) (by kernel_rfl) (by simp) ?_
    refine AllReadyH.cons (o := qPk14_14) rfl (fun K hK => ?_) (AllReadyH.cons (o := qPk14_15) rfl (fun K hK => ?_) (AllReadyH.nil))
    ·have q0 := (HS318.out).at 0 rfl 1 rfl
     go_simp
     clear q0
     have HS319 := HS318
     refine hK.out _ _ ((fun j v hv => by rw [Nat.zero_add]; exact (HS319.out).at 1 rfl j hv)) (fun hHeld => ?_)
     clear hK K
     try simp only [z0, z1, z2, z3]
     refine wpAnyH_ready (rs := [2, 3]) (by kernel_rfl) (by simp) ?_
     refine AllReadyH.cons (o := qPk14_17) rfl (fun K hK => ?_) (AllReadyH.cons (o := qPk14_15) rfl (fun K hK => ?_) (AllReadyH.nil))
     ·go_simp
      go_wp2_with (go_at_call 43; refine (HCl.out _ (HS319.out).old).mono ?_; rintro e w319 ⟨u0, rfl, hb, ho⟩)
      have HS320 : Hid (Hp w [.ob (w.heap.size) 25 (tbCells (.slice a t.held.length cap) (.slice a2 t.wait.length cap2)), .ob b3 29 (grCells g), .ob b4 25 (tbCells (.slice none 0 0) (.slice none 0 0)), .rd R, .ob B87 29 (grCells wx), .ob B318 29 (([grCells g] : List (List Value)).flatMap id), .sl u0 29 4 (t.wait.length) (grRow t.wait)] w319) := (HS319.out).addown hb ho
      refine hK.out _ _ ((fun j v hv => by rw [Nat.zero_add]; exact (HS320.out).at 1 rfl j hv)) (fun hHeld => ?_)
      clear hK K hb ho
      try simp only [z0, z1, z2, z3]
      refine tn 3 qPk14_15 (fun K hK => ?_)
      rw [if_pos (by rfl)]
      refine wp_load_whole 25 (.tmp 2) (w.heap.size) (tbCells (.slice a t.held.length cap) (.slice a2 t.wait.length cap2)) 25 HUT.out rfl rfl ((HS320.out).get 0 rfl) rfl (info_tb) ?_
      have HS321 := HS320
      refine hK.out _ _ ((fun j v hv => by rw [Nat.zero_add]; exact (HS321.out).at 1 rfl j hv)) (fun hHeld => ?_)
      clear hK K
      try simp only [z0, z1, z2, z3]
      refine tn 5 qPk14_18 (fun K hK => ?_)
      go_simp
      go_wp2_with (go_at_call 44; refine (HTu1.out _ (HS321.out).old).mono ?_; rintro e w320 ⟨rfl, hb⟩)
      have HS322 := Lib.hid ((HS321.out).calls hb)
      refine hK.out _ _ ((fun j v hv => by rw [Nat.zero_add]; exact (HS322.out).at 1 rfl j hv)) (fun hHeld => ?_)
      clear hK K hb
      try simp only [z0, z1, z2, z3]
      refine tn 8 qPk14_19 (fun K hK => ?_)
      go_simp
      go_wp2_with (go_at_call 42; refine (insert_own t.wait g p u0 w.heap.size B318 _ HPl.out ((HS322.out).own 6 rfl) ((HS322.out).get 5 rfl) (fun e => (HS322.out).ne 6 5 rfl rfl (by decide) e rfl rfl) (HS322.out).old.size (by have := HLn.out; omega)).mono ?_; rintro e w321 ⟨u6, rfl, ho6, hg6, hub6⟩)
      rw [HL6.out] at ho6
      have HS323 : Hid (Hp w [.ob (w.heap.size) 25 (tbCells (.slice a t.held.length cap) (.slice a2 t.wait.length cap2)), .ob b3 29 (grCells g), .ob b4 25 (tbCells (.slice none 0 0) (.slice none 0 0)), .rd R, .ob B87 29 (grCells wx), .ob B318 29 (([grCells g] : List (List Value)).flatMap id), .sl u6 29 4 (l6.length) (grRow l6)] w321) := (HS322.out).grown2 6 rfl ho6 hg6 (fun b hb => hub6.elim (fun h => .inl (h ▸ hb)) (fun h => .inr (by rw [h] at hb; exact Nat.le_of_eq (Option.some.inj hb))))
      refine hK.out _ _ ((fun j v hv => by rw [Nat.zero_add]; exact (HS323.out).at 1 rfl j hv)) (fun hHeld => ?_)
      clear hK K ho6 hg6 hub6
      try simp only [z0, z1, z2, z3]
      refine tk 9 qPk14_20 (some 62) (v := ?q1216v) (Or.inl ⟨by rfl, ?q1216h⟩) hHeld ?q1216r
      case q1216h => (intro wq hSw; clear hSw; go_simp; try with_reducible rfl)
      try simp only [z0, z1, z2, z3]
      refine tn 10 qPk14_21 (fun K hK => ?_)
      rw [if_pos (by rfl)]
      obtain ⟨a6, c6, rfl⟩ := own_slice ((HS323.out).own 6 rfl)
      have q5 := (HS323.out).at 0 rfl 1 rfl
      have f5 := (HS323.out).frozen 0 rfl 1
      go_simp
      clear q5 f5
      have HS324 : Hid (Hp w [.ob (w.heap.size) 25 (tbCells (.slice a t.held.length cap) (.slice a6 l6.length c6)), .ob b3 29 (grCells g), .ob b4 25 (tbCells (.slice none 0 0) (.slice none 0 0)), .rd R, .ob B87 29 (grCells wx), .ob B318 29 (([grCells g] : List (List Value)).flatMap id), .sl ((.slice a6 l6.length c6)) 29 4 (l6.length) (grRow l6)] (w321.setCell ⟨w.heap.size, 1, none⟩ (.slice a6 l6.length c6))) := (HS323.out).set 0 rfl 1 (.slice a6 l6.length c6)
      refine hK.out _ _ ((fun j v hv => by rw [Nat.zero_add]; exact (HS324.out).at 1 rfl j hv)) (fun hHeld => ?_)
      clear hK K
      generalize (w321.setCell ⟨w.heap.size, 1, none⟩ (.slice a6 l6.length c6)) = w322 at *
      try simp only [z0, z1, z2, z3]
      refine wpAnyH_done (by kernel_rfl) ?_ _
      clear hHeld
      have HS325 : Hid (Hp w [.ob (w.heap.size) 25 (tbCells (.slice a t.held.length cap) (.slice a6 l6.length c6)), .ob b3 29 (grCells g), .ob b4 25 (tbCells (.slice none 0 0) (.slice none 0 0)), .rd R, .sl ((.slice a6 l6.length c6)) 29 4 (l6.length) (grRow l6)] w322) := HS324.out.pull [0, 1, 2, 3, 6] rfl (pull_nd HS324.out.nd [0, 1, 2, 3, 6] rfl (by decide))
      clear HS324
      obtain ⟨R7, h7, hn7, hs7⟩ := Hp.ownrd2 (A := [.ob (w.heap.size) 25 (tbCells (.slice a t.held.length cap) (.slice a6 l6.length c6)), .ob b3 29 (grCells g), .ob b4 25 (tbCells (.slice none 0 0) (.slice none 0 0)), .rd R]) HS325.out
      go_wp2_with fail
      go_meet
      exact ⟨a6, c6, R7, h7, hn7, hs7⟩
     ·rw [if_pos (by rfl)]
      refine wp_load_whole 25 (.tmp 2) (w.heap.size) (tbCells (.slice a t.held.length cap) (.slice a2 t.wait.length cap2)) 25 HUT.out rfl rfl ((HS319.out).get 0 rfl) rfl (info_tb) ?_
      have HS320 := HS319
      refine hK.out _ _ ((fun j v hv => by rw [Nat.zero_add]; exact (HS320.out).at 1 rfl j hv)) (fun hHeld => ?_)
      clear hK K
      try simp only [z0, z1, z2, z3]
      refine tn 2 qPk14_17 (fun K hK => ?_)
      go_simp
      go_wp2_with (go_at_call 43; refine (HCl.out _ (HS320.out).old).mono ?_; rintro e w319 ⟨u0, rfl, hb, ho⟩)
      have HS321 : Hid (Hp w [.ob (w.heap.size) 25 (tbCells (.slice a t.held.length cap) (.slice a2 t.wait.length cap2)), .ob b3 29 (grCells g), .ob b4 25 (tbCells (.slice none 0 0) (.slice none 0 0)), .rd R, .ob B87 29 (grCells wx), .ob B318 29 (([grCells g] : List (List Value)).flatMap id), .sl u0 29 4 (t.wait.length) (grRow t.wait)] w319) := (HS320.out).addown hb ho
      refine hK.out _ _ ((fun j v hv => by rw [Nat.zero_add]; exact (HS321.out).at 1 rfl j hv)) (fun hHeld => ?_)
      clear hK K hb ho
      try simp only [z0, z1, z2, z3]
      refine tn 5 qPk14_18 (fun K hK => ?_)
      go_simp
      go_wp2_with (go_at_call 44; refine (HTu1.out _ (HS321.out).old).mono ?_; rintro e w320 ⟨rfl, hb⟩)
      have HS322 := Lib.hid ((HS321.out).calls hb)
      refine hK.out _ _ ((fun j v hv => by rw [Nat.zero_add]; exact (HS322.out).at 1 rfl j hv)) (fun hHeld => ?_)
      clear hK K hb
      try simp only [z0, z1, z2, z3]
      refine tn 8 qPk14_19 (fun K hK => ?_)
      go_simp
      go_wp2_with (go_at_call 42; refine (insert_own t.wait g p u0 w.heap.size B318 _ HPl.out ((HS322.out).own 6 rfl) ((HS322.out).get 5 rfl) (fun e => (HS322.out).ne 6 5 rfl rfl (by decide) e rfl rfl) (HS322.out).old.size (by have := HLn.out; omega)).mono ?_; rintro e w321 ⟨u6, rfl, ho6, hg6, hub6⟩)
      rw [HL6.out] at ho6
      have HS323 : Hid (Hp w [.ob (w.heap.size) 25 (tbCells (.slice a t.held.length cap) (.slice a2 t.wait.length cap2)), .ob b3 29 (grCells g), .ob b4 25 (tbCells (.slice none 0 0) (.slice none 0 0)), .rd R, .ob B87 29 (grCells wx), .ob B318 29 (([grCells g] : List (List Value)).flatMap id), .sl u6 29 4 (l6.length) (grRow l6)] w321) := (HS322.out).grown2 6 rfl ho6 hg6 (fun b hb => hub6.elim (fun h => .inl (h ▸ hb)) (fun h => .inr (by rw [h] at hb; exact Nat.le_of_eq (Option.some.inj hb))))
      refine hK.out _ _ ((fun j v hv => by rw [Nat.zero_add]; exact (HS323.out).at 1 rfl j hv)) (fun hHeld => ?_)
      clear hK K ho6 hg6 hub6
      try simp only [z0, z1, z2, z3]
      refine tk 9 qPk14_20 (some 62) (v := ?q1217v) (Or.inl ⟨by rfl, ?q1217h⟩) hHeld ?q1217r
      case q1217h => (intro wq hSw; clear hSw; go_simp; try with_reducible rfl)
      try simp only [z0, z1, z2, z3]
      refine tn 10 qPk14_21 (fun K hK => ?_)
      rw [if_pos (by rfl)]
      obtain ⟨a6, c6, rfl⟩ := own_slice ((HS323.out).own 6 rfl)
      have q5 := (HS323.out).at 0 rfl 1 rfl
      have f5 := (HS323.out).frozen 0 rfl 1
      go_simp
      clear q5 f5
      have HS324 : Hid (Hp w [.ob (w.heap.size) 25 (tbCells (.slice a t.held.length cap) (.slice a6 l6.length c6)), .ob b3 29 (grCells g), .ob b4 25 (tbCells (.slice none 0 0) (.slice none 0 0)), .rd R, .ob B87 29 (grCells wx), .ob B318 29 (([grCells g] : List (List Value)).flatMap id), .sl ((.slice a6 l6.length c6)) 29 4 (l6.length) (grRow l6)] (w321.setCell ⟨w.heap.size, 1, none⟩ (.slice a6 l6.length c6))) := (HS323.out).set 0 rfl 1 (.slice a6 l6.length c6)
      refine hK.out _ _ ((fun j v hv => by rw [Nat.zero_add]; exact (HS324.out).at 1 rfl j hv)) (fun hHeld => ?_)
      clear hK K
      generalize (w321.setCell ⟨w.heap.size, 1, none⟩ (.slice a6 l6.length c6)) = w322 at *
      try simp only [z0, z1, z2, z3]
      refine wpAnyH_done (by kernel_rfl) ?_ _
      clear hHeld
      have HS325 : Hid (Hp w [.ob (w.heap.size) 25 (tbCells (.slice a t.held.length cap) (.slice a6 l6.length c6)), .ob b3 29 (grCells g), .ob b4 25 (tbCells (.slice none 0 0) (.slice none 0 0)), .rd R, .sl ((.slice a6 l6.length c6)) 29 4 (l6.length) (grRow l6)] w322) := HS324.out.pull [0, 1, 2, 3, 6] rfl (pull_nd HS324.out.nd [0, 1, 2, 3, 6] rfl (by decide))
      clear HS324
      obtain ⟨R7, h7, hn7, hs7⟩ := Hp.ownrd2 (A := [.ob (w.heap.size) 25 (tbCells (.slice a t.held.length cap) (.slice a6 l6.length c6)), .ob b3 29 (grCells g), .ob b4 25 (tbCells (.slice none 0 0) (.slice none 0 0)), .rd R]) HS325.out
      go_wp2_with fail
      go_meet
      exact ⟨a6, c6, R7, h7, hn7, hs7⟩
    ·rw [if_pos (by rfl)]
     refine wp_load_whole 25 (.tmp 2) (w.heap.size) (tbCells (.slice a t.held.length cap) (.slice a2 t.wait.length cap2)) 25 HUT.out rfl rfl ((HS318.out).get 0 rfl) rfl (info_tb) ?_
     have HS319 := HS318
     refine hK.out _ _ ((fun j v hv => by rw [Nat.zero_add]; exact (HS319.out).at 1 rfl j hv)) (fun hHeld => ?_)
     clear hK K
     try simp only [z0, z1, z2, z3]
     refine tn 1 qPk14_14 (fun K hK => ?_)
     have q0 := (HS319.out).at 0 rfl 1 rfl
     go_simp
     clear q0
     have HS320 := HS319
     refine hK.out _ _ ((fun j v hv => by rw [Nat.zero_add]; exact (HS320.out).at 1 rfl j hv)) (fun hHeld => ?_)
     clear hK K
     try simp only [z0, z1, z2, z3]
     refine tn 2 qPk14_17 (fun K hK => ?_)
     go_simp
     go_wp2_with (go_at_call 43; refine (HCl.out _ (HS320.out).old).mono ?_; rintro e w319 ⟨u0, rfl, hb, ho⟩)
     have HS321 : Hid (Hp w [.ob (w.heap.size) 25 (tbCells (.slice a t.held.length cap) (.slice a2 t.wait.length cap2)), .ob b3 29 (grCells g), .ob b4 25 (tbCells (.slice none 0 0) (.slice none 0 0)), .rd R, .ob B87 29 (grCells wx), .ob B318 29 (([grCells g] : List (List Value)).flatMap id), .sl u0 29 4 (t.wait.length) (grRow t.wait)] w319) := (HS320.out).addown hb ho
     refine hK.out _ _ ((fun j v hv => by rw [Nat.zero_add]; exact (HS321.out).at 1 rfl j hv)) (fun hHeld => ?_)
     clear hK K hb ho
     try simp only [z0, z1, z2, z3]
     refine tn 5 qPk14_18 (fun K hK => ?_)
     go_simp
     go_wp2_with (go_at_call 44; refine (HTu1.out _ (HS321.out).old).mono ?_; rintro e w320 ⟨rfl, hb⟩)
     have HS322 := Lib.hid ((HS321.out).calls hb)
     refine hK.out _ _ ((fun j v hv => by rw [Nat.zero_add]; exact (HS322.out).at 1 rfl j hv)) (fun hHeld => ?_)
     clear hK K hb
     try simp only [z0, z1, z2, z3]
     refine tn 8 qPk14_19 (fun K hK => ?_)
     go_simp
     go_wp2_with (go_at_call 42; refine (insert_own t.wait g p u0 w.heap.size B318 _ HPl.out ((HS322.out).own 6 rfl) ((HS322.out).get 5 rfl) (fun e => (HS322.out).ne 6 5 rfl rfl (by decide) e rfl rfl) (HS322.out).old.size (by have := HLn.out; omega)).mono ?_; rintro e w321 ⟨u6, rfl, ho6, hg6, hub6⟩)
     rw [HL6.out] at ho6
     have HS323 : Hid (Hp w [.ob (w.heap.size) 25 (tbCells (.slice a t.held.length cap) (.slice a2 t.wait.length cap2)), .ob b3 29 (grCells g), .ob b4 25 (tbCells (.slice none 0 0) (.slice none 0 0)), .rd R, .ob B87 29 (grCells wx), .ob B318 29 (([grCells g] : List (List Value)).flatMap id), .sl u6 29 4 (l6.length) (grRow l6)] w321) := (HS322.out).grown2 6 rfl ho6 hg6 (fun b hb => hub6.elim (fun h => .inl (h ▸ hb)) (fun h => .inr (by rw [h] at hb; exact Nat.le_of_eq (Option.some.inj hb))))
     refine hK.out _ _ ((fun j v hv => by rw [Nat.zero_add]; exact (HS323.out).at 1 rfl j hv)) (fun hHeld => ?_)
     clear hK K ho6 hg6 hub6
     try simp only [z0, z1, z2, z3]
     refine tk 9 qPk14_20 (some 62) (v := ?q1218v) (Or.inl ⟨by rfl, ?q1218h⟩) hHeld ?q1218r
     case q1218h => (intro wq hSw; clear hSw; go_simp; try with_reducible rfl)
     try simp only [z0, z1, z2, z3]
     refine tn 10 qPk14_21 (fun K hK => ?_)
     rw [if_pos (by rfl)]
     obtain ⟨a6, c6, rfl⟩ := own_slice ((HS323.out).own 6 rfl)
     have q5 := (HS323.out).at 0 rfl 1 rfl
     have f5 := (HS323.out).frozen 0 rfl 1
     go_simp
     clear q5 f5
     have HS324 : Hid (Hp w [.ob (w.heap.size) 25 (tbCells (.slice a t.held.length cap) (.slice a6 l6.length c6)), .ob b3 29 (grCells g), .ob b4 25 (tbCells (.slice none 0 0) (.slice none 0 0)), .rd R, .ob B87 29 (grCells wx), .ob B318 29 (([grCells g] : List (List Value)).flatMap id), .sl ((.slice a6 l6.length c6)) 29 4 (l6.length) (grRow l6)] (w321.setCell ⟨w.heap.size, 1, none⟩ (.slice a6 l6.length c6))) := (HS323.out).set 0 rfl 1 (.slice a6 l6.length c6)
     refine hK.out _ _ ((fun j v hv => by rw [Nat.zero_add]; exact (HS324.out).at 1 rfl j hv)) (fun hHeld => ?_)
     clear hK K
     generalize (w321.setCell ⟨w.heap.size, 1, none⟩ (.slice a6 l6.length c6)) = w322 at *
     try simp only [z0, z1, z2, z3]
     refine wpAnyH_done (by kernel_rfl) ?_ _
     clear hHeld
     have HS325 : Hid (Hp w [.ob (w.heap.size) 25 (tbCells (.slice a t.held.length cap) (.slice a6 l6.length c6)), .ob b3 29 (grCells g), .ob b4 25 (tbCells (.slice none 0 0) (.slice none 0 0)), .rd R, .sl ((.slice a6 l6.length c6)) 29 4 (l6.length) (grRow l6)] w322) := HS324.out.pull [0, 1, 2, 3, 6] rfl (pull_nd HS324.out.nd [0, 1, 2, 3, 6] rfl (by decide))
     clear HS324
     obtain ⟨R7, h7, hn7, hs7⟩ := Hp.ownrd2 (A := [.ob (w.heap.size) 25 (tbCells (.slice a t.held.length cap) (.slice a6 l6.length c6)), .ob b3 29 (grCells g), .ob b4 25 (tbCells (.slice none 0 0) (.slice none 0 0)), .rd R]) HS325.out
     go_wp2_with fail
     go_meet
     exact ⟨a6, c6, R7, h7, hn7, hs7⟩
  case rest =>
   obtain ⟨a6, c6, R7, h7, hn7, hs7⟩ := hcut
   have HR7 := Lib.hid h7
   have HN7 := Lib.hid hn7
   have HS7 : Hid (Hp w [.ob (w.heap.size) 25 (tbCells (.slice a t.held.length cap) (.slice a6 l6.length c6)), .ob b3 29 (grCells g), .ob b4 25 (tbCells (.slice none 0 0) (.slice none 0 0)), .rd R, .rd R7] wc) := hs7
   clear h7 hn7 hs7 HCl HTu1
   generalize wc = w700 at *
   have hi9 : TbIn ⟨t.held, l6⟩ := by have := HIn.out; rwa [HAe.out] at this
   have HE2 : Hid (rq = (settleR ⟨t.held, l6⟩, decide (g.mode ≤ modeG (settleR ⟨t.held, l6⟩).held g), 0)) := Lib.hid (by rw [HE.out, HAe.out])
   have HIn2 := Lib.hid hi9
   have HFw : Hid (t.held.length + l6.length ≤ 2000) := Lib.hid (by have h1 := congrArg List.length HL6.out; have h2 := HLn.out; rw [insG_len] at h1; omega)
   have HSe : Hid (∀ W, RdIn W (R ++ R7) → Calls Try.prog 45 #[.agg (tbCells (.slice a t.held.length cap) (.slice a6 l6.length c6)).toArray] W (TbNew W (settleR ⟨t.held, l6⟩))) := fun W h2 => settled_any (R := R ++ R7) W ⟨SlRd.mono HT.out.1 (fun r hr => by simp [hr]), SlRd.mono HR7.out (fun r hr => by simp [hr])⟩ h2 HIn2.out (by have := HFw.out; simp only; omega)
   have hi8 := settle_in HIn2.out
   have hl8 := settle_len HIn2.out
   have HGs := Lib.hid (hi8.good (by have := HFw.out; simp only at hl8; omega))
   have HUp := Lib.hid hi8.held.up
   have HSm := Lib.hid (settle_mode HIn2.out (g := g) (by show g ∈ l6; rw [← HL6.out]; exact mem_insG _ _ _))
   generalize settleR ⟨t.held, l6⟩ = u at *
   clear HE HAe hi9 hi8 hl8
   go_wp2_with (first | ((with_reducible refine wpList_load_ob 25 (.tmp 2) (w.heap.size) (tbCells (.slice a t.held.length cap) (.slice a6 l6.length c6)) 25 HUT.out ?_ ?_ ?_ ?_ ?_); (exact rfl); (exact (HS7.out).get 0 rfl); (exact rfl); (exact info_tb); simp only [Act.put, List.setIfInBounds_toArray, List.set_cons_zero, List.set_cons_succ]))
   refine (HSe.out _ (RdIn.append ((HS7.out).reads 3 rfl) ((HS7.out).reads 4 rfl))).mono ?_
   rintro e w731 ⟨h9, v9, R9, rfl, hrd2, hin2, hnew2, hb⟩
   obtain ⟨a9, c9, rfl, _, _⟩ := hrd2.1.shape
   obtain ⟨b9, d9, rfl, _, _⟩ := hrd2.2.shape
   have H9 := Lib.hid hrd2
   have HN9 : Hid (∀ r ∈ R9, w.heap.size ≤ r.1) := fun r hr => Nat.le_trans (HS7.out).old.size (hnew2 r hr)
   have HS731 : Hid (Hp w [.ob (w.heap.size) 25 (tbCells (.slice a t.held.length cap) (.slice a6 l6.length c6)), .ob b3 29 (grCells g), .ob b4 25 (tbCells (.slice none 0 0) (.slice none 0 0)), .rd R, .rd R7, .rd R9] w731) := (HS7.out).addrd hb R9 hin2 (fun r hr => .inl (hnew2 r hr))
   clear hb hin2 hnew2 hrd2
   clear HS7
   go_upto_region 16 with (first | ((with_reducible refine wpList_store_ob 25 (.tmp 2) (w.heap.size) (tbCells (.slice a9 u.held.length c9) (.slice b9 u.wait.length d9)) (tbCells (.slice a t.held.length cap) (.slice a6 l6.length c6)) 25 ?_ ?_ ?_ ?_ ?_ ?_ ?_); (exact rfl); (exact rfl); (exact (HS731.out).get 0 rfl); (exact info_tb); (exact rfl); (exact (oneCell_tb _ _ _ _ _ _)); skip))
   have HS732 : Hid (Hp w [.ob (w.heap.size) 25 (tbCells (.slice a9 u.held.length c9) (.slice b9 u.wait.length d9)), .ob b3 29 (grCells g), .ob b4 25 (tbCells (.slice none 0 0) (.slice none 0 0)), .rd R, .rd R7, .rd R9] (w731.setRow (w.heap.size) (tbCells (.slice a9 u.held.length c9) (.slice b9 u.wait.length d9)).toArray)) := (HS731.out).row 0 rfl (tbCells (.slice a9 u.held.length c9) (.slice b9 u.wait.length d9))
   clear HSe
   clear HS731
   generalize (w731.setRow (w.heap.size) (tbCells (.slice a9 u.held.length c9) (.slice b9 u.wait.length d9)).toArray) = w732 at *
   have HMu : Hid (∀ W, RdIn W R9 → Calls Try.prog 41 #[.slice a9 u.held.length c9, .int .i64 g.tx, .agg (lkCells g.lock).toArray] W fun e w' => e = .returned (.int .i64 (modeG u.held g)) ∧ Below W.heap.size W w') := fun W h2 => pmode_any g.tx g.lock u.held _ R9 W HUp.out H9.out.1 h2 (by have := HGs.out.few; omega)
   generalize modeG u.held g = mu at *
   obtain ⟨q, hq⟩ : ∃ q, (mu == g.mode) = q := ⟨_, rfl⟩
   rw [← HSm.out, hq] at HE2
   refine wp_region_held_drew (S := fun w' => w'.rangeAt w.heap.size 0 (tbCells (.slice a9 u.held.length c9) (.slice b9 u.wait.length d9)) ∧ w'.rangeAt b3 0 (grCells g)) (by kernel_rfl) (⟨(fun j v hv => by rw [Nat.zero_add]; exact ((HS732.out).drew).at 0 rfl j hv), (fun j v hv => by rw [Nat.zero_add]; exact ((HS732.out).drew).at 1 rfl j hv)⟩) (fun hHeld => ?_)
   refine tk 0 qPk14_22 (some 65) (yieldsIf_load_mid (by rfl) 25 (.tmp 2) rfl w.heap.size (0) rfl (tbCells (.slice a9 u.held.length c9) (.slice b9 u.wait.length d9)) _ (fun _ h => h.1) HUT.out rfl (info_tb)) hHeld ?_
   try simp only [z0, z1, z2, z3]
   refine tk 1 qPk14_23 (some 66) (v := ?q1402v) (Or.inl ⟨by rfl, ?q1402h⟩) hHeld ?q1402r
   case q1402h => (intro wq hSw; clear hSw; go_simp; try with_reducible rfl)
   try simp only [z0, z1, z2, z3]
   refine tk 2 qPk14_24 (some 67) (v := .slice a9 u.held.length c9) (Or.inl ⟨by rfl, ?q1403h⟩) hHeld ?q1403r
   case q1403h => (intro wq hSw; have lq := (hSw.1) 0 (.slice a9 u.held.length c9) rfl; simp only [Nat.zero_add] at lq; clear hSw; go_simp; try with_reducible rfl)
   try simp only [z0, z1, z2, z3]
   refine tk 3 qPk14_25 (some 68) (v := ?q1404v) (Or.inl ⟨by rfl, ?q1404h⟩) hHeld ?q1404r
   case q1404h => (intro wq hSw; clear hSw; go_simp; try with_reducible rfl)
   try simp only [z0, z1, z2, z3]
   refine tk 4 qPk14_26 (some 69) (v := .int .i64 g.tx) (Or.inl ⟨by rfl, ?q1405h⟩) hHeld ?q1405r
   case q1405h => (intro wq hSw; have lq := (hSw.2) 0 (.int .i64 g.tx) rfl; simp only [Nat.zero_add] at lq; clear hSw; go_simp; try with_reducible rfl)
   try simp only [z0, z1, z2, z3]
   refine tk 5 qPk14_27 (some 70) (v := ?q1406v) (Or.inl ⟨by rfl, ?q1406h⟩) hHeld ?q1406r
   case q1406h => (intro wq hSw; clear hSw; go_simp; try with_reducible rfl)
   try simp only [z0, z1, z2, z3]
   refine tk 6 qPk14_28 (some 71) (yieldsIf_load_mid (by rfl) 27 (.tmp 70) rfl b3 (1) rfl (lkCells g.lock) _ (fun _ h => range_part (h.2) (mid_lk g)) HUK.out rfl (info_lk)) hHeld ?_
   try simp only [z0, z1, z2, z3]
   refine tk 8 qPk14_29 (some 73) (v := ?q1408v) (Or.inl ⟨by rfl, ?q1408h⟩) hHeld ?q1408r
   case q1408h => (intro wq hSw; clear hSw; go_simp; try with_reducible rfl)
   try simp only [z0, z1, z2, z3]
   refine tk 9 qPk14_30 (some 74) (v := .int .i64 g.mode) (Or.inl ⟨by rfl, ?q1409h⟩) hHeld ?q1409r
   case q1409h => (intro wq hSw; have lq := (hSw.2) 3 (.int .i64 g.mode) rfl; simp only [Nat.zero_add] at lq; clear hSw; go_simp; try with_reducible rfl)
   try simp only [z0, z1, z2, z3]
   refine tn 7 qPk14_31 (fun K hK => ?_)
   go_simp
   go_wp2_with (go_at_call 41; refine (HMu.out _ (((HS732.out).drew).reads 5 rfl)).mono ?_; rintro e w758 ⟨rfl, hb⟩)
   have HS758 := Lib.hid (((HS732.out).drew).calls hb)
   refine hK.out _ _ (⟨(fun j v hv => by rw [Nat.zero_add]; exact (HS758.out).at 0 rfl j hv), (fun j v hv => by rw [Nat.zero_add]; exact (HS758.out).at 1 rfl j hv)⟩) (fun hHeld => ?_)
   clear hK K hb
   try simp only [z0, z1, z2, z3]
   refine tk 10 qPk14_32 (some 75) (v := .bool q) (Or.inl ⟨by rfl, ?q1410h⟩) hHeld ?q1410r
   case q1410h => (intro wq hSw; clear hSw; go_simp; try with_reducible rfl)
   try simp only [z0, z1, z2, z3]
   refine tn 11 qPk14_33 (fun K hK => ?_)
   rw [if_pos (by rfl)]
   refine wp_store_ob 25 (.tmp 4) (.tmp 65) b4 (tbCells (.slice a9 u.held.length c9) (.slice b9 u.wait.length d9)) (tbCells (.slice none 0 0) (.slice none 0 0)) 25 rfl rfl rfl rfl ((HS758.out).get 2 rfl) (info_tb) (rfl) ((oneCell_tb _ _ _ _ _ _)) ?_
   have HS759 : Hid (Hp w [.ob (w.heap.size) 25 (tbCells (.slice a9 u.held.length c9) (.slice b9 u.wait.length d9)), .ob b3 29 (grCells g), .ob b4 25 (tbCells (.slice a9 u.held.length c9) (.slice b9 u.wait.length d9)), .rd R, .rd R7, .rd R9] (w758.setRow b4 (tbCells (.slice a9 u.held.length c9) (.slice b9 u.wait.length d9)).toArray)) := (HS758.out).row 2 rfl (tbCells (.slice a9 u.held.length c9) (.slice b9 u.wait.length d9))
   refine hK.out _ _ (⟨(fun j v hv => by rw [Nat.zero_add]; exact (HS759.out).at 0 rfl j hv), (fun j v hv => by rw [Nat.zero_add]; exact (HS759.out).at 1 rfl j hv)⟩) (fun hHeld => ?_)
   clear hK K
   generalize (w758.setRow b4 (tbCells (.slice a9 u.held.length c9) (.slice b9 u.wait.length d9)).toArray) = w759 at *
   try simp only [z0, z1, z2, z3]
   refine tk 12 qPk14_34 (some 5) (v := ?q1411v) (Or.inl ⟨by rfl, ?q1411h⟩) hHeld ?q1411r
   case q1411h => (intro wq hSw; clear hSw; go_simp; try with_reducible rfl)
   try simp only [z0, z1, z2, z3]
   refine tk 13 qPk14_35 (some 6) (v := ?q1412v) (Or.inl ⟨by rfl, ?q1412h⟩) hHeld ?q1412r
   case q1412h => (intro wq hSw; clear hSw; go_simp; try with_reducible rfl)
   try simp only [z0, z1, z2, z3]
   refine wpAnyH_done (by kernel_rfl) ?_ _
   clear hHeld
   go_wp2_with fail
   refine bodyPost_ret (results_ob_tmp2 Try.results17 _ _ b4 (tbCells (.slice a9 u.held.length c9) (.slice b9 u.wait.length d9)) 25 _ rfl ((HS759.out).get 2 rfl) HUT.out rfl info_tb) rfl ?_
   rw [HE2.out]
   exact ⟨_, _, R9, rfl, H9.out, (HS759.out).reads 5 rfl, fun r hr => .inl (HN9.out r hr), (HS759.out).old⟩
end Go.Proofs.Ytcnaalbpbalgdaa
/- the example of chapter 8, reckoned -/
namespace Go.Proofs.Ytcnaalbpbalgdaa
set_option maxRecDepth 20000

def kx (tx m : Int) : Gr := ⟨tx, 1, 0, m⟩
theorem request_new {t : Tb} {g : Gr} (h : TbOk t) (hg : GrOk g) (hno : wfind t.wait g.tx = none) (hm : ¬ g.mode ≤ modeG t.held g) (hl : ¬ t.held.length + t.wait.length = 1024) :
    requestR t g = (settleR (addedR t g), decide (g.mode ≤ modeG (settleR (addedR t g)).held g), 0) := by
  rw [request_of h hg, waitR_of h, hno]
  simp only [Option.isSome_none, Bool.false_eq_true, if_false]
  rw [if_neg hm, if_neg hl]
theorem kx_ok {tx m : Int} (h : tx = 1 ∨ tx = 2) (hm : m = 1 ∨ m = 2) : GrOk (kx tx m) := ⟨by show 1 ≤ tx ∧ tx ≤ 1073741824; omega, ⟨by show (0 : Int) ≤ 1; decide, by show (1 : Int) < 64; decide⟩, ⟨by show (0 : Int) ≤ 0; decide, by show (0 : Int) < 16; decide⟩, hm⟩
theorem awake_facts : ∃ t1 t2 t3 t4, (requestR tbNil (kx 1 1) = (t1, true, 0) ∧ TbOk t1) ∧ (requestR t1 (kx 2 1) = (t2, true, 0) ∧ TbOk t2) ∧ (requestR t2 (kx 1 2) = (t3, false, 0) ∧ TbOk t3) ∧ (releaseR t3 2 = t4 ∧ TbOk t4) ∧ modeT t4 1 1 0 = 2 := by
  have e1 : requestR tbNil (kx 1 1) = (⟨[kx 1 1], []⟩, true, 0) := by
    rw [request_new tbNil_ok (kx_ok (.inl rfl) (.inl rfl)) (by rfl) (by decide) (by decide)]; rfl
  have o1 : TbOk ⟨[kx 1 1], []⟩ := by have := (request_ok tbNil_ok (g := kx 1 1) (by rw [e1])).1; rwa [e1] at this
  have e2 : requestR ⟨[kx 1 1], []⟩ (kx 2 1) = (⟨[kx 1 1, kx 2 1], []⟩, true, 0) := by
    rw [request_new o1 (kx_ok (.inr rfl) (.inl rfl)) (by rfl) (by decide) (by decide)]; rfl
  have o2 : TbOk ⟨[kx 1 1, kx 2 1], []⟩ := by have := (request_ok o1 (g := kx 2 1) (by rw [e2])).1; rwa [e2] at this
  have e3 : requestR ⟨[kx 1 1, kx 2 1], []⟩ (kx 1 2) = (⟨[kx 1 1, kx 2 1], [kx 1 2]⟩, false, 0) := by
    rw [request_new o2 (kx_ok (.inl rfl) (.inr rfl)) (by rfl) (by decide) (by decide)]; rfl
  have o3 : TbOk ⟨[kx 1 1, kx 2 1], [kx 1 2]⟩ := by have := (request_ok o2 (g := kx 1 2) (by rw [e3])).1; rwa [e3] at this
  have e4 : releaseR ⟨[kx 1 1, kx 2 1], [kx 1 2]⟩ 2 = ⟨[kx 1 2], []⟩ := by
    unfold releaseR; rw [if_pos (tbOkB_iff.2 o3)]; rfl
  have o4 : TbOk ⟨[kx 1 2], []⟩ := by have := (release_ok o3 2).1.ok; rwa [e4] at this
  refine ⟨_, _, _, _, ⟨e1, o1⟩, ⟨e2, o2⟩, ⟨e3, o3⟩, ⟨e4, o4⟩, ?_⟩
  unfold modeT; rw [if_pos (tbOkB_iff.2 o4)]; rfl
end Go.Proofs.Ytcnaalbpbalgdaa
/- faults and devices as values, and what the functions of chapter 4 answer -/
namespace Go.Proofs.Ytcnaalbpbalgdaa
open Go.RowKit
set_option maxRecDepth 20000

structure Flt where
  kind : Int
  at_ : Int
  page : Int
  target : Int
  byte : Int
  mask : Int
structure Dv where
  pages : List ByteArray
  writes : Int
  unread : List Int
  dead : Bool
  faults : List Flt
def fltCells (f : Flt) : List Value := [.int .i64 f.kind, .int .i64 f.at_, .int .i64 f.page, .int .i64 f.target, .int .i64 f.byte, .int .u8 f.mask]
def intRow (l : List Int) : List Value := l.map (.int .i64)
def strRow (l : List ByteArray) : List Value := l.map .string
def fltRow (l : List Flt) : List Value := l.flatMap fltCells
def dvCells (p : Value) (d : Dv) (u f : Value) : List Value := [p, .int .i64 d.writes, u, .bool d.dead, f]
/-- a device's three slices read -/
structure DvRd (p u f : Value) (d : Dv) (R : List Rng) : Prop where
  pages : SlRd p 1 d.pages.length (strRow d.pages) R
  unread : SlRd u 1 d.unread.length (intRow d.unread) R
  faults : SlRd f 6 d.faults.length (fltRow d.faults) R
theorem DvRd.mono {p u f : Value} {d : Dv} {R S : List Rng} (h : DvRd p u f d R) (hs : ∀ r ∈ R, r ∈ S) : DvRd p u f d S := ⟨h.pages.mono hs, h.unread.mono hs, h.faults.mono hs⟩
def dvNil : Dv := ⟨[], 0, [], false, []⟩
def nilS : Value := .slice none 0 0
end Go.Proofs.Ytcnaalbpbalgdaa
/- the walk of the reference's Copy -/
namespace Go.Proofs.Ytcnaalbpbalgdaa
open Go.RowKit
set_option maxRecDepth 20000

theorem SlRd.one {v : Value} {z n : Nat} {xs : List Value} {R : List Rng} (h : SlRd v z n xs R) : v.oneCell' = true := by
  obtain ⟨a, cap, rfl, _⟩ := h
  rfl
end Go.Proofs.Ytcnaalbpbalgdaa
/- the choices of the drawing package: Data -/
namespace Go.Proofs.Ytcnaalbpbalgdaa
open Go.RowKit
set_option maxRecDepth 20000

theorem Besides.grown {C : Nat} {a w w' : World} {row : Option Nat} (h : Besides C a w) (hg : w.grownBy w' row) (hr : ∀ k, row = some k → a.heap.size ≤ k) : Besides C a w' :=
  ⟨hg.os.trans h.os, hg.tape.trans h.tape, hg.output.trans h.output, Nat.le_trans h.size hg.size, fun k hk hC => (hg.block k (Nat.lt_of_lt_of_le hk h.size) (fun e => by have := hr k e.symm; omega)).trans (h.block k hk hC),
    fun hC => (World.cell?_of_block (a := ⟨C, 0, none⟩) (hg.block C (Nat.lt_of_lt_of_le hC h.size) (fun e => by have := hr C e.symm; omega))).trans (h.head hC)⟩
end Go.Proofs.Ytcnaalbpbalgdaa
/- the choices of the drawing package: Bytes -/
namespace Go.Proofs.Ytcnaalbpbalgdaa
open Go.RowKit
set_option maxRecDepth 20000

/-- a row of bytes is block B -/
def RowIn (w : World) (B : Nat) (l : List UInt8) : Prop := w.heap[B]? = some (.cells (l.map (fun b => Value.int .u8 (b.toNat : Int))).toArray 5 (0, 0))
theorem RowIn.lt {w : World} {B : Nat} {l : List UInt8} (h : RowIn w B l) : B < w.heap.size := (Array.getElem?_eq_some_iff.1 h).1
theorem RowIn.besides {w w' : World} {B C : Nat} {l : List UInt8} (h : RowIn w B l) (hb : Besides C w w') (hC : B ≠ C) : RowIn w' B l := (hb.block B h.lt hC).trans h
theorem RowIn.cell {w : World} {B : Nat} {l : List UInt8} (h : RowIn w B l) (i : Nat) (hi : i < l.length) : w.cell? ⟨B, i, none⟩ = some (.int .u8 (l[i].toNat : Int)) := by
  unfold RowIn at h
  simp [World.cell?, h, List.getElem?_eq_getElem hi]
theorem RowIn.frozen {w : World} {B : Nat} {l : List UInt8} (h : RowIn w B l) (i : Nat) : w.frozen? ⟨B, i, none⟩ = false := by
  unfold RowIn at h
  simp [World.frozen?, h]
theorem RowIn.set {w : World} {B : Nat} {l : List UInt8} (h : RowIn w B l) (k : Nat) (x : Int) (x0 : 0 ≤ x) (x1 : x ≤ 255) : RowIn (w.setCell ⟨B, k, none⟩ (.int .u8 x)) B (l.set k (UInt8.ofNat x.toNat)) := by
  refine (heap_setCell_same w B k _ _ _ h).trans ?_
  rw [List.setIfInBounds_toArray, List.map_set, UInt8.toNat_ofNat', show ((x.toNat % 2 ^ 8 : Nat) : Int) = x from by omega]
theorem RowIn.conv {w : World} {B : Nat} {l : List UInt8} (h : RowIn w B l) (n c : Nat) (hn : n = l.length) : Sem.run Try.prog (convert 22 9 (.slice (some ⟨B, 0, none⟩) n c)) w = .ok (.string ⟨l.toArray⟩) w := by
  subst hn
  refine run_convert_bytes_back (P := Try.prog) w 22 9 5 ⟨B, 0, none⟩ c l Try.underlying22 Try.underlying5 Try.underlying9 (fun j hj => ?_)
  have ea : (⟨B, 0, none⟩ : Addr).add j = ⟨B, j, none⟩ := by
    simp only [Addr.add]; split
    · next h => rw [h]
    · simp
  rw [ea]
  exact h.cell j hj

end Go.Proofs.Ytcnaalbpbalgdaa
/- the walks of the reference's blanks and New -/
namespace Go.Proofs.Ytcnaalbpbalgdaa
open Go.RowKit
set_option maxRecDepth 20000

/-- how a function that gives a device and an error ends: it reads as x says, in memory that is new or was read before -/
def DvPost (w : World) (R0 : List Rng) (x : Dv × Int) (e : Ending) (w' : World) : Prop :=
  ∃ p u f R, e = .returned (.tuple #[.agg (dvCells p x.1 u f).toArray, .int .i64 x.2]) ∧ DvRd p u f x.1 R ∧ RdIn w' R ∧ (∀ r ∈ R, w.heap.size ≤ r.1 ∨ r ∈ R0) ∧ Below w.heap.size w w'
theorem DvPost.none {w w' : World} {R0 : List Rng} {x : Dv × Int} {n : Int} (hx : x = (dvNil, n)) (hb : Below w.heap.size w w') : DvPost w R0 x (.returned (.tuple #[.agg (dvCells nilS dvNil nilS nilS).toArray, .int .i64 n])) w' := by
  subst hx
  exact ⟨_, _, _, [], rfl, ⟨SlRd.nil _ _, SlRd.nil _ _, SlRd.nil _ _⟩, RdIn.nil _, by simp, hb⟩
end Go.Proofs.Ytcnaalbpbalgdaa
/- the choices of a law's walk, as a thing -/
namespace Go.Proofs.Ytcnaalbpbalgdaa
open Go.RowKit
set_option maxRecDepth 20000

theorem row_lo {w : World} {x : Option Addr} {len cap : Nat} {zs : List Int} (hr : IsRow .u8 w x len cap zs) (h0 : 0 < len) : ∀ b off, x = some ⟨b, off, none⟩ → b < w.heap.size := by
  intro b off hx
  rcases hr with ⟨_, h, _, _⟩ | ⟨y, hy, _, _, hz, hc, _⟩
  · omega
  · have := World.block_lt_of_cell? w _ (hc 0 (by omega))
    rw [hx] at hy
    cases hy
    simpa [Addr.add] using this
theorem new_hp (m : Nat) (hm : m ≤ 1000) {w0 w : World} {L : List Th} {x : Option Addr} {len cap : Nat} {zs : List Int} (h : Hp w0 L w) (hr : IsRow .u8 w0 x len cap zs) :
    Calls Try.prog 9 #[.slice x len cap, .int .i64 m] w fun e w' => e = .returned (.pointer (some ⟨w.heap.size, 0, none⟩)) ∧ Hp w0 (L ++ [.cd w.heap.size]) w' :=
  (new_at m hm x len cap zs w (row_below hr h.old)).mono fun _ _ ⟨h1, h2, h3, l, c, h4, h5⟩ => ⟨h1, h.begin h2 h3 ⟨x, l, c, h4, fun hl => row_lo hr (h5 hl)⟩⟩
end Go.Proofs.Ytcnaalbpbalgdaa
/- the choices of the drawing package: how many are left -/
namespace Go.Proofs.Ytcnaalbpbalgdaa
open Go.RowKit
set_option maxRecDepth 20000

/-- how many choices are left at block C -/
def leftIn (w : World) (C : Nat) : Nat := match w.cell? ⟨C, 0, none⟩, w.cell? ⟨C, 1, none⟩ with
  | some (.slice _ len _), some (.int _ i) => ((len : Int) - i).toNat
  | _, _ => 0
theorem CodesAt.left {w : World} {C len cap : Nat} {a : Option Addr} {i : Int} (h : CodesAt w C a len cap i) : leftIn w C = ((len : Int) - i).toNat := by
  unfold leftIn
  rw [h.2.1, h.2.2.1]
theorem leftIn_of {w w' : World} {C : Nat} (h : w'.heap[C]? = w.heap[C]?) : leftIn w' C = leftIn w C := by
  unfold leftIn
  rw [World.cell?_of_block (a := ⟨C, 0, none⟩) h, World.cell?_of_block (a := ⟨C, 1, none⟩) h]
theorem leftIn_below {w w' : World} {C B : Nat} (hb : Below B w w') (hC : C < B) : leftIn w' C = leftIn w C := leftIn_of (hb.block C hC)
theorem leftIn_drewN (w : World) (q C : Nat) : leftIn (w.drewN q) C = leftIn w C := rfl
theorem leftIn_next {w : World} {C len cap : Nat} {a : Option Addr} {i : Int} (h : CodesAt w C a len cap i) : leftIn (w.setCell ⟨C, 1, none⟩ (.int .i64 (i + 1))) C ≤ leftIn w C - 1 := by
  rw [h.left]
  unfold leftIn
  rw [World.cell?_setCell_other w _ _ _ (by intro h; cases h), h.2.1, World.cell?_setCell_same w _ _ h.2.2.1]
  show ((len : Int) - (i + 1)).toNat ≤ _
  omega
def NextL (C : Nat) (n : Int) (w : World) (e : Ending) (w' : World) : Prop :=
  ∃ x : Int, e = .returned (.int .i64 x) ∧ 0 ≤ x ∧ (x < n ∨ x = 0) ∧ Besides C w w' ∧ CodesOk w' C ∧ leftIn w' C ≤ leftIn w C - 1
set_option maxHeartbeats 400000 in
theorem left_end (C : Nat) (a : Option Addr) (len cap : Nat) (i n : Int) (w : World) (h : CodesAt w C a len cap i) (hl : (len : Int) ≤ i) :
    Calls Try.prog 16 #[.pointer (some ⟨C, 0, none⟩), .int .i64 n] w (NextL C n w) := by
  have HK : Hid (CodesOk w C) := ⟨a, len, cap, i, h⟩
  have HZ : Hid (leftIn w C = 0) := by show _ = _; rw [h.left]; omega
  have h1 := h.2.1
  have h2 := h.2.2.1
  clear h
  have d1 : decide ((len : Int) ≤ i) = true := by simpa using hl
  go_enter Try.func16, Try.ntmps16
  go_wp2
  go_quiet (fail)
  go_wp2
  go_ret
  exact ⟨0, rfl, Int.le_refl _, Or.inr rfl, (Besides.refl _ _).drewN _, HK.out.drewN _, by rw [leftIn_drewN, HZ.out]; exact Nat.le_refl _⟩
set_option maxHeartbeats 400000 in
theorem left_small (C : Nat) (n : Int) (w : World) (h : CodesOk w C) (h1n : 1 ≤ n) (hn : n ≤ 256) :
    Calls Try.prog 16 #[.pointer (some ⟨C, 0, none⟩), .int .i64 n] w (NextL C n w) := by
  obtain ⟨a, len, cap, i, h⟩ := h
  by_cases hz : (len : Int) ≤ i
  · exact left_end C a len cap i n w h hz
  have hi : i < len := by omega
  have HK : Hid (∀ q : Nat, CodesOk ((w.drewN q).setCell ⟨C, 1, none⟩ (.int .i64 (i + 1))) C) := fun q => (h.keep (w' := w.drewN q) (Nat.le_refl _) (fun _ _ => rfl)).next hi
  have HLf : Hid (∀ q : Nat, leftIn ((w.drewN q).setCell ⟨C, 1, none⟩ (.int .i64 (i + 1))) C ≤ leftIn w C - 1) := fun q => leftIn_next (w := w.drewN q) (h.keep (w' := w.drewN q) (Nat.le_refl _) (fun _ _ => rfl))
  obtain ⟨h0, h1, h2, h3, h4, h5, h6, h7⟩ := h
  obtain ⟨b, off, rfl, hbC, hcell⟩ := h7 (by omega)
  obtain ⟨k, rfl⟩ := Int.eq_ofNat_of_zero_le h4
  obtain ⟨z, hzc, z0, z1⟩ := hcell k (by omega)
  clear hcell h7 hz
  have d1 : decide (len ≤ k) = false := by simp; omega
  have d2 : decide (n < 1) = false := by simp; omega
  have hk : (k : Int) < (len : Int) := by omega
  have hk0 : (0 : Int) ≤ (k : Int) := by omega
  have hg : ¬ 256 < n := by omega
  have dz := Int.emod_nonneg z (show n ≠ 0 by omega)
  have dz2 := Int.emod_lt_of_pos z (show 0 < n by omega)
  go_enter Try.func16, Try.ntmps16
  go_wp2
  go_quiet (fail)
  go_wp2
  go_quiet (fail)
  go_wp2
  go_ret
  exact ⟨z % n, rfl, dz, Or.inl dz2, ((Besides.refl _ _).drewN _).set _ _ (by decide), HK.out _, HLf.out _⟩
end Go.Proofs.Ytcnaalbpbalgdaa
/- the choices of the drawing package, with how many are left: Int, Fault -/
namespace Go.Proofs.Ytcnaalbpbalgdaa
open Go.RowKit
set_option maxRecDepth 20000
set_option linter.unusedSimpArgs false
set_option linter.unusedVariables false

/-- choices, of which at most so many are left -/
def CodesM (m : Nat) (w : World) (C : Nat) : Prop := CodesOk w C ∧ leftIn w C ≤ m
theorem CodesM.lt {m : Nat} {w : World} {C : Nat} (h : CodesM m w C) : C < w.heap.size := h.1.lt
theorem CodesM.below {m : Nat} {w w' : World} {C B : Nat} (h : CodesM m w C) (hb : Below B w w') (hC : C < B) : CodesM m w' C := ⟨h.1.below hb hC, by rw [leftIn_below hb hC]; exact h.2⟩
structure DrM (m : Nat) (w : World) (C : Nat) (L : List Ob) (W : World) : Prop where
  dr : Dr w C L W
  left : leftIn W C ≤ m
theorem DrM.start {m : Nat} {w : World} {C : Nat} (h : CodesM m w C) : DrM m w C [] w := ⟨Dr.start h.1, h.2⟩
theorem DrM.codes {m : Nat} {w W : World} {C : Nat} {L : List Ob} (h : DrM m w C L W) : CodesM m W C := ⟨h.dr.codes, h.left⟩
theorem DrM.draws {m : Nat} {w W W' : World} {C : Nat} {L : List Ob} (h : DrM m w C L W) (hb : Besides C W W') (hc : CodesM m W' C) : DrM m w C L W' := ⟨h.dr.draws hb hc.1, hc.2⟩
theorem DrM.put {m : Nat} {w W : World} {C : Nat} {L : List Ob} (h : DrM m w C L W) (t : TypeId) (cs : List Value) : DrM m w C (L ++ [⟨W.heap.size, t, cs⟩]) (W.alloc (.cells cs.toArray t)) :=
  ⟨h.dr.put t cs, by rw [leftIn_below ((Below.refl _ _).alloc (Nat.le_refl _) _) h.dr.codes.lt]; exact h.left⟩
theorem DrM.ne {m : Nat} {w W : World} {C : Nat} {L : List Ob} (h : DrM m w C L W) (i : Nat) {o : Ob} (e : L[i]? = some o) : C ≠ o.b := by
  have h1 := h.dr.new _ (List.mem_of_getElem? e)
  have h2 := h.dr.lt
  omega
theorem DrM.set {m : Nat} {w W : World} {C : Nat} {L : List Ob} (h : DrM m w C L W) (i : Nat) {o : Ob} (e : L[i]? = some o) (k : Nat) (v : Value) : DrM m w C (L.set i ⟨o.b, o.t, o.cs.set k v⟩) (W.setCell ⟨o.b, k, none⟩ v) :=
  ⟨h.dr.set i e k v, by rw [leftIn_of (Below.heap_setCell _ _ _ _ (h.ne i e))]; exact h.left⟩
theorem DrM.row {m : Nat} {w W : World} {C : Nat} {L : List Ob} (h : DrM m w C L W) (i : Nat) {o : Ob} (e : L[i]? = some o) (cs : List Value) : DrM m w C (L.set i ⟨o.b, o.t, cs⟩) (W.setRow o.b cs.toArray) :=
  ⟨h.dr.row i e cs, by rw [leftIn_of (setRow_other _ _ _ _ (h.ne i e))]; exact h.left⟩
theorem DrM.get {m : Nat} {w W : World} {C : Nat} {L : List Ob} (h : DrM m w C L W) (i : Nat) {b : Nat} {t : TypeId} {cs : List Value} (e : L[i]? = some ⟨b, t, cs⟩) : W.heap[b]? = some (.cells cs.toArray t (0, 0)) := h.dr.get i e
theorem DrM.cell {m : Nat} {w W : World} {C : Nat} {L : List Ob} (h : DrM m w C L W) (i : Nat) {b : Nat} {t : TypeId} {cs : List Value} (e : L[i]? = some ⟨b, t, cs⟩) (k : Nat) {v : Value} (hv : cs[k]? = some v) : W.cell? ⟨b, k, none⟩ = some v := by
  rw [cell_of_row W b k _ _ _ (h.get i e), List.getElem?_toArray]; exact hv
theorem DrM.frozen {m : Nat} {w W : World} {C : Nat} {L : List Ob} (h : DrM m w C L W) (i : Nat) {b : Nat} {t : TypeId} {cs : List Value} (e : L[i]? = some ⟨b, t, cs⟩) (k : Nat) : W.frozen? ⟨b, k, none⟩ = false := frozen_of_row _ _ _ _ _ (h.get i e)
end Go.Proofs.Ytcnaalbpbalgdaa
/- within a drawing function: things in new memory beside choices that were there before -/
namespace Go.Proofs.Ytcnaalbpbalgdaa
open Go.RowKit
set_option maxRecDepth 20000
set_option linter.unusedSimpArgs false
set_option linter.unusedVariables false

/-- things in memory that is new since w, while only the choices C of the elder memory change -/
structure DrH (w : World) (C : Nat) (L : List Th) (W : World) : Prop where
  bes : Besides C w W
  codes : CodesOk W C
  lt : C < w.heap.size
  off : ∀ x ∈ L, ∀ b ∈ x.reads, w.heap.size ≤ b
  nocd : ∀ x ∈ L, ∀ c, x ≠ .cd c
  hp : ∃ w', w'.heap.size = w.heap.size ∧ Hp w' L W
theorem DrH.start {w : World} {C : Nat} (h : CodesOk w C) : DrH w C [] w := ⟨Besides.refl _ _, h, h.lt, by simp, by simp, w, rfl, Hp.start w⟩
theorem DrH.step {w W W' : World} {C : Nat} {L L' : List Th} (h : DrH w C L W) (hs : W.heap.size ≤ W'.heap.size) (H : ∀ w', w'.heap.size = w.heap.size → Hp w' L W → Hp w' L' W') (hr : ∀ x ∈ L', ∀ b ∈ x.reads, w.heap.size ≤ b) (hc : ∀ x ∈ L', ∀ c, x ≠ .cd c) : DrH w C L' W' := by
  obtain ⟨bes, cod, lt, _, _, w', e, hp⟩ := h
  have hp' := H w' e hp
  have hk : ∀ k, k < w.heap.size → W'.heap[k]? = W.heap[k]? := fun k hk => (hp'.old.block k (by omega)).trans (hp.old.block k (by omega)).symm
  have hb : Below w.heap.size W W' := ⟨hp'.old.os.trans hp.old.os.symm, hp'.old.tape.trans hp.old.tape.symm, hp'.old.output.trans hp.old.output.symm, hs, hk⟩
  have hw : w.heap.size ≤ W'.heap.size := Nat.le_trans bes.size hs
  exact ⟨⟨hb.os.trans bes.os, hb.tape.trans bes.tape, hb.output.trans bes.output, hw, fun k h1 h2 => (hk k h1).trans (bes.block k h1 h2), fun hC => (World.cell?_of_block (a := ⟨C, 0, none⟩) (hk C lt)).trans (bes.head hC)⟩, cod.below hb lt, lt, hr, hc, w', e, hp'⟩
theorem DrH.all {w W : World} {C : Nat} {L : List Th} (h : DrH w C L W) : ∀ x ∈ L, x.In w.heap.size W := by
  obtain ⟨_, _, _, _, _, w', e, hp⟩ := h
  intro x hx
  rw [← e]
  exact hp.all x hx
theorem DrH.nd {w W : World} {C : Nat} {L : List Th} (h : DrH w C L W) : L.Pairwise Th.Apart := by
  obtain ⟨_, _, _, _, _, w', e, hp⟩ := h
  exact hp.nd
theorem DrH.in {w W : World} {C : Nat} {L : List Th} (h : DrH w C L W) (i : Nat) {x : Th} (e : L[i]? = some x) : x.In w.heap.size W := h.all _ (List.mem_of_getElem? e)
theorem DrH.get {w W : World} {C : Nat} {L : List Th} (h : DrH w C L W) (i : Nat) {b : Nat} {t : TypeId} {cs : List Value} (e : L[i]? = some (.ob b t cs)) : W.heap[b]? = some (.cells cs.toArray t (0, 0)) := (h.in i e).2
theorem DrH.at {w W : World} {C : Nat} {L : List Th} (h : DrH w C L W) (i : Nat) {b : Nat} {t : TypeId} {cs : List Value} (e : L[i]? = some (.ob b t cs)) (k : Nat) {v : Value} (hv : cs[k]? = some v) : W.cell? ⟨b, k, none⟩ = some v := by
  rw [cell_of_row W b k _ _ _ (h.get i e), List.getElem?_toArray]; exact hv
theorem DrH.frozen {w W : World} {C : Nat} {L : List Th} (h : DrH w C L W) (i : Nat) {b : Nat} {t : TypeId} {cs : List Value} (e : L[i]? = some (.ob b t cs)) (k : Nat) : W.frozen? ⟨b, k, none⟩ = false := frozen_of_row _ _ _ _ _ (h.get i e)
theorem DrH.reads {w W : World} {C : Nat} {L : List Th} (h : DrH w C L W) (i : Nat) {R : List Rng} (e : L[i]? = some (.rd R)) : RdIn W R := h.in i e
theorem DrH.pick {w W : World} {C : Nat} {L M : List Th} (h : DrH w C L W) (is : List Nat) (e : is.map (fun i => L[i]?) = M.map some) : Hold w.heap.size M W := fun x hx => by
  have : some x ∈ M.map some := List.mem_map.2 ⟨x, hx, rfl⟩
  rw [← e, List.mem_map] at this
  obtain ⟨i, _, hi⟩ := this
  exact h.in i hi
theorem pull_mem {L M : List Th} (is : List Nat) (e : is.map (fun i => L[i]?) = M.map some) {x : Th} (hx : x ∈ M) : x ∈ L := by
  have : some x ∈ M.map some := List.mem_map.2 ⟨x, hx, rfl⟩
  rw [← e, List.mem_map] at this
  obtain ⟨i, _, hi⟩ := this
  exact List.mem_of_getElem? hi
theorem DrH.pull {w W : World} {C : Nat} {L M : List Th} (h : DrH w C L W) (is : List Nat) (e : is.map (fun i => L[i]?) = M.map some) (hn : M.Pairwise Th.Apart) : DrH w C M W :=
  h.step (Nat.le_refl _) (fun _ _ hp => hp.pull is e hn) (fun x hx => h.off x (pull_mem is e hx)) (fun x hx => h.nocd x (pull_mem is e hx))
theorem DrH.drew {w W : World} {C : Nat} {L : List Th} (h : DrH w C L W) : DrH w C L W.drew := h.step (Nat.le_refl _) (fun _ _ hp => hp.drew) h.off h.nocd
theorem DrH.calls {w W W' : World} {C : Nat} {L : List Th} (h : DrH w C L W) (hb : Below W.heap.size W W') : DrH w C L W' := h.step hb.size (fun _ _ hp => hp.calls hb) h.off h.nocd
theorem DrH.put {w W : World} {C : Nat} {L : List Th} (h : DrH w C L W) (t : TypeId) (cs : List Value) : DrH w C (L ++ [.ob W.heap.size t cs]) (W.alloc (.cells cs.toArray t)) :=
  h.step ((Below.refl W.heap.size W).alloc (Nat.le_refl _) _).size (fun _ _ hp => hp.put t cs) (fun x hx => by
    rcases List.mem_append.1 hx with hx | hx
    · exact h.off x hx
    · obtain rfl := List.mem_singleton.1 hx
      exact fun b hb => absurd hb List.not_mem_nil) (fun x hx => by
    rcases List.mem_append.1 hx with hx | hx
    · exact h.nocd x hx
    · obtain rfl := List.mem_singleton.1 hx
      intro c hc
      cases hc)
theorem DrH.row {w W : World} {C : Nat} {L : List Th} (h : DrH w C L W) (i : Nat) {b : Nat} {t : TypeId} {cs : List Value} (e : L[i]? = some (.ob b t cs)) (cs' : List Value) : DrH w C (L.set i (.ob b t cs')) (W.setRow b cs'.toArray) :=
  h.step (by simp [World.setRow]) (fun _ _ hp => hp.row i e cs') (fun x hx => by
    rcases List.mem_or_eq_of_mem_set hx with hx | rfl
    · exact h.off x hx
    · exact fun b hb => absurd hb List.not_mem_nil) (fun x hx => by
    rcases List.mem_or_eq_of_mem_set hx with hx | rfl
    · exact h.nocd x hx
    · intro c hc
      cases hc)
theorem DrH.set {w W : World} {C : Nat} {L : List Th} (h : DrH w C L W) (i : Nat) {b : Nat} {t : TypeId} {cs : List Value} (e : L[i]? = some (.ob b t cs)) (k : Nat) (v : Value) : DrH w C (L.set i (.ob b t (cs.set k v))) (W.setCell ⟨b, k, none⟩ v) :=
  h.step (by simp [World.setCell]) (fun _ _ hp => hp.set i e k v) (fun x hx => by
    rcases List.mem_or_eq_of_mem_set hx with hx | rfl
    · exact h.off x hx
    · exact fun b hb => absurd hb List.not_mem_nil) (fun x hx => by
    rcases List.mem_or_eq_of_mem_set hx with hx | rfl
    · exact h.nocd x hx
    · intro c hc
      cases hc)
theorem DrH.addrd {w W W' : World} {C : Nat} {L : List Th} (h : DrH w C L W) (hb : Below W.heap.size W W') (R : List Rng) (hR : RdIn W' R) (hr : ∀ r ∈ R, W.heap.size ≤ r.1 ∨ ∃ z ∈ L, r.1 ∈ z.reads) : DrH w C (L ++ [.rd R]) W' :=
  h.step hb.size (fun _ _ hp => hp.addrd hb R hR hr) (fun x hx => by
    rcases List.mem_append.1 hx with hx | hx
    · exact h.off x hx
    · obtain rfl := List.mem_singleton.1 hx
      intro b hb
      obtain ⟨r, hr', rfl⟩ := List.mem_map.1 hb
      rcases hr r hr' with h1 | ⟨z, hz, h1⟩
      · have := h.bes.size
        omega
      · exact h.off z hz _ h1) (fun x hx => by
    rcases List.mem_append.1 hx with hx | hx
    · exact h.nocd x hx
    · obtain rfl := List.mem_singleton.1 hx
      intro c hc
      cases hc)
theorem keep_nocd {B : Nat} {W W' : World} {x : Th} (h : x.In B W) (hc : ∀ c, x ≠ .cd c) (hs : W.heap.size ≤ W'.heap.size) (hx : ∀ b, x.blk = some b → W'.heap[b]? = W.heap[b]?) (hr : ∀ b ∈ x.reads, W'.heap[b]? = W.heap[b]?) : x.In B W' := by
  cases x with
  | ob c t cs => exact ⟨h.1, (hx c rfl).trans h.2⟩
  | sl v e z n xs =>
    refine ⟨h.1, ?_⟩
    rcases h.2 with h0 | ⟨g, cap, cur, hv, hB, hg, hr⟩
    · exact .inl h0
    · exact .inr ⟨g, cap, cur, hv, hB, (hx g (by rw [hv]; rfl)).trans hg, hr⟩
  | cd C => exact absurd rfl (hc C)
  | rd R => exact RdIn.keep h hs hr
theorem DrH.draws {w W W' : World} {C : Nat} {L : List Th} (h : DrH w C L W) (hb : Besides C W W') (hc : CodesOk W' C) : DrH w C L W' := by
  obtain ⟨bes, cod, lt, off, nocd, w', e, hp⟩ := h
  have hsz : w.heap.size ≤ W'.heap.size := Nat.le_trans bes.size hb.size
  have e2 : (W'.heap.extract 0 w.heap.size).size = w.heap.size := by rw [Array.size_extract]; omega
  refine ⟨bes.trans hb, hc, lt, off, nocd, { W' with heap := W'.heap.extract 0 w.heap.size }, e2, ⟨rfl, rfl, rfl, ?_, fun k hk => ?_⟩, fun x hx => ?_, hp.nd⟩
  · show (W'.heap.extract 0 w.heap.size).size ≤ W'.heap.size
    omega
  · have hk' : k < (W'.heap.extract 0 w.heap.size).size := hk
    show W'.heap[k]? = (W'.heap.extract 0 w.heap.size)[k]?
    rw [Array.getElem?_extract]
    rw [if_pos (by omega)]
    simp
  · show x.In (W'.heap.extract 0 w.heap.size).size W'
    rw [e2, ← e]
    exact keep_nocd (hp.all x hx) (nocd x hx) hb.size (fun b h1 => hb.block b ((hp.all x hx).from h1).2 (by have := ((hp.all x hx).from h1).1; omega)) (fun b h1 => hb.block b ((hp.all x hx).reads_lt h1) (by have := off x hx b h1; omega))
theorem set_off {P : Th → Prop} {L : List Th} (h : ∀ x ∈ L, P x) (i : Nat) {y : Th} (hy : P y) : ∀ x ∈ L.set i y, P x := fun x hx => by
  rcases List.mem_or_eq_of_mem_set hx with hx | rfl
  · exact h x hx
  · exact hy
theorem DrH.own {w W : World} {C : Nat} {L : List Th} (h : DrH w C L W) (i : Nat) {v : Value} {t : TypeId} {z n : Nat} {xs : List Value} (e : L[i]? = some (.sl v t z n xs)) : W.ownsRow w.heap.size t z v n xs := h.in i e
theorem DrH.ne {w W : World} {C : Nat} {L : List Th} (h : DrH w C L W) (i j : Nat) {x y : Th} {b c : Nat} (ei : L[i]? = some x) (ej : L[j]? = some y) (hij : i ≠ j) (hb : x.blk = some b) (hc : y.blk = some c) : b ≠ c := fun e => by
  subst e
  exact (apart_at h.nd i j x y ei ej hij).1 b hb |>.1 hc
theorem DrH.grown {w W W' : World} {C : Nat} {L : List Th} (h : DrH w C L W) (i : Nat) {v v' : Value} {t : TypeId} {z n m : Nat} {xs ys : List Value} (e : L[i]? = some (.sl v t z n xs)) (ho : W'.ownsRow w.heap.size t z v' m ys) (hg : W.grownBy W' v.ownBlock) (hb : v'.ownBlock = v.ownBlock ∨ v'.ownBlock = some W.heap.size) : DrH w C (L.set i (.sl v' t z m ys)) W' :=
  h.step hg.size (fun w' ew hp => hp.grown i e (by rw [ew]; exact ho) hg hb) (set_off h.off i (fun b hb => absurd hb List.not_mem_nil)) (set_off h.nocd i (fun c hc => by cases hc))
theorem DrH.append {w W : World} {C : Nat} {L : List Th} (h : DrH w C L W) (i : Nat) {v : Value} {e : TypeId} {z n : Nat} {xs : List Value} (ei : L[i]? = some (.sl v e z n xs)) (j : Nat) {b : Nat} {t' : TypeId} {ys : List Value} (ej : L[j]? = some (.ob b t' ys))
    (ts : TypeId) (ty : TypeId) {bytes : Nat} (ht : Try.prog.underlying ts = some (.slice e)) (he : ElemIs e z bytes) (m c : Nat) (hl : ys.length = m * z) (h1 : ∀ u ∈ ys, u.oneCell' = true) (hn : n + m ≤ 1048576) :
    ∃ v' W', (Builtin.append_ #[ts, ts] ty #[v, .slice (some ⟨b, 0, none⟩) m c]).run Try.prog W = .ok v' W' ∧ DrH w C (L.set i (.sl v' e z (n + m) (xs ++ ys))) W' ∧ (v' = .slice none 0 0 ↔ v = .slice none 0 0 ∧ m = 0) := by
  obtain ⟨inf, zv, hi, hz, hsize, hby, hzs⟩ := he.is
  have hroom := he.room
  have hcell : ∀ q u, ys[q]? = some u → W.cell? ((⟨b, 0, none⟩ : Addr).add q) = some u := fun q u hu => by
    rw [Addr.add_mid, Nat.zero_add]
    exact h.at j ej q hu
  obtain ⟨v', W', hr, h2, h3, h4, h5⟩ := run_append_own_at (P := Try.prog) W w.heap.size ts ty e inf zv z bytes ht hi hz hsize hby hzs he.pos v n xs (h.own i ei) ⟨b, 0, none⟩ m c ys hl hcell h1 (by unfold maxLen; omega) (by
    have := Nat.mul_le_mul hn hroom
    omega) h.bes.size
  exact ⟨v', W', hr, h.grown i ei h2 h3 h5, h4⟩
end Go.Proofs.Ytcnaalbpbalgdaa
/- the choices of the drawing package: Grant -/
namespace Go.Proofs.Ytcnaalbpbalgdaa
open Go.RowKit
set_option maxRecDepth 20000
set_option linter.unusedSimpArgs false
set_option linter.unusedVariables false

theorem build_lk2 (p s : Int) (W : World) : Sem.run Try.prog (Instr.build 27 #[(0, .int .i64 p), (1, .int .i64 s)]) W = .ok (.agg (lkCells ⟨p, s⟩).toArray) W := by kernel_rfl
theorem build_gr3 (t p s m : Int) (W : World) : Sem.run Try.prog (Instr.build 29 #[(0, .int .i64 t), (1, .agg (lkCells ⟨p, s⟩).toArray), (2, .int .i64 m)]) W = .ok (.agg (grCells ⟨t, p, s, m⟩).toArray) W := by kernel_rfl
def GrantPost (C : Nat) (w : World) (e : Ending) (w' : World) : Prop := ∃ g : Gr, e = .returned (.agg (grCells g).toArray) ∧ GrOk g ∧ Besides C w w' ∧ CodesOk w' C ∧ leftIn w' C ≤ leftIn w C - 1
/-- beside it: of whom -/
def GrantPost5 (C : Nat) (w : World) (e : Ending) (w' : World) : Prop := ∃ g : Gr, e = .returned (.agg (grCells g).toArray) ∧ GrOk g ∧ g.tx ≤ 5 ∧ Besides C w w' ∧ CodesOk w' C ∧ leftIn w' C ≤ leftIn w C - 1
set_option maxHeartbeats 4000000 in
theorem grant5_any (C : Nat) (w : World) (h : CodesOk w C) :
    Calls Try.prog 14 #[.pointer (some ⟨C, 0, none⟩)] w (GrantPost5 C w) := by
  obtain ⟨fsHUG, huHUG⟩ := under_gr
  have HUG := Lib.hid huHUG
  clear huHUG
  obtain ⟨fsHUK, huHUK⟩ := under_lk
  have HUK := Lib.hid huHUK
  clear huHUK
  obtain ⟨fsHUT, huHUT⟩ := under_tb
  have HUT := Lib.hid huHUT
  clear huHUT
  have hlt := h.lt
  have HLt := Lib.hid hlt
  have h1 := (DrH.start h).put 29 (grCells grNil)
  have HS0 : Hid (DrH w C [.ob w.heap.size 29 (grCells grNil)] (w.alloc (.cells #[.int .i64 0, .int .i64 0, .int .i64 0, .int .i64 0] 29))) := h1
  have HL0 : Hid (leftIn (w.alloc (.cells #[.int .i64 0, .int .i64 0, .int .i64 0, .int .i64 0] 29)) C = leftIn w C) := Lib.hid (leftIn_below (B := w.heap.size) ((Below.refl _ _).alloc (Nat.le_refl _) _) hlt)
  clear h h1 hlt
  go_enter Try.func14, Try.ntmps14
  go_upto_region 1 with (fail)
  generalize (w.alloc (.cells #[.int .i64 0, .int .i64 0, .int .i64 0, .int .i64 0] 29)) = w1 at *
  go_wp2_with fail
  refine (left_small C 5 _ (HS0.out).codes (by decide) (by decide)).mono ?_
  rintro e w3 ⟨n, rfl, n0, n1, hb, hc, hl⟩
  have HS2 : Hid (DrH w C [.ob (w.heap.size) 29 (grCells grNil)] w3) := (HS0.out).draws hb hc
  clear hb hc
  clear HS0
  have HL1 := Lib.hid hl
  have n2 : n < 5 := by omega
  clear hl n1
  have wna : IntKind.i64.wrap (1 + n) = 1 + n := IntWalk.i64_in _ (by omega)
  have wnb : wrap64 (1 + n) = 1 + n := IntWalk.wrap64_in _ (by omega)
  go_wp2_with fail
  refine (left_small C 2 _ (HS2.out).codes (by decide) (by decide)).mono ?_
  rintro e w4 ⟨p, rfl, p0, p1, hb, hc, hl⟩
  have HS3 : Hid (DrH w C [.ob (w.heap.size) 29 (grCells grNil)] w4) := (HS2.out).draws hb hc
  clear hb hc
  clear HS2
  have HL2 := Lib.hid hl
  have p2 : p < 2 := by omega
  clear hl p1
  go_wp2_with fail
  refine (left_small C 2 _ (HS3.out).codes (by decide) (by decide)).mono ?_
  rintro e w5 ⟨s, rfl, s0, s1, hb, hc, hl⟩
  have HS4 : Hid (DrH w C [.ob (w.heap.size) 29 (grCells grNil)] w5) := (HS3.out).draws hb hc
  clear hb hc
  clear HS3
  have HL3 := Lib.hid hl
  have s2 : s < 2 := by omega
  clear hl s1
  go_wp2_with (first | ((with_reducible refine wpList_build_v (d := some 10) 27 (.agg (lkCells (⟨p, s⟩ : Lok)).toArray) ?_ ?_); (intro W; simp only [List.map_toArray, List.map_cons, List.map_nil]; exact build_lk2 _ _ W); simp only [Act.put, List.setIfInBounds_toArray, List.set_cons_zero, List.set_cons_succ]))
  refine (left_small C 2 _ (HS4.out).codes (by decide) (by decide)).mono ?_
  rintro e w6 ⟨m, rfl, m0, m1, hb, hc, hl⟩
  have HS5 : Hid (DrH w C [.ob (w.heap.size) 29 (grCells grNil)] w6) := (HS4.out).draws hb hc
  clear hb hc
  clear HS4
  have HL4 := Lib.hid hl
  have m2 : m < 2 := by omega
  clear hl m1
  have wma : IntKind.i64.wrap (1 + m) = 1 + m := IntWalk.i64_in _ (by omega)
  have wmb : wrap64 (1 + m) = 1 + m := IntWalk.wrap64_in _ (by omega)
  go_wp2_with (first | ((with_reducible refine wpList_build_v (d := some 14) 29 (.agg (grCells (⟨1 + n, p, s, 1 + m⟩ : Gr)).toArray) ?_ ?_); (intro W; simp only [List.map_toArray, List.map_cons, List.map_nil]; exact build_gr3 _ _ _ _ W); simp only [Act.put, List.setIfInBounds_toArray, List.set_cons_zero, List.set_cons_succ]) | ((with_reducible refine wpList_store_ob 29 (.tmp 2) (w.heap.size) (grCells (⟨1 + n, p, s, 1 + m⟩ : Gr)) (grCells grNil) 29 ?_ ?_ ?_ ?_ ?_ ?_ ?_); (exact rfl); (exact rfl); (exact (HS5.out).get 0 rfl); (exact info_gr); (exact rfl); (exact (oneCell_gr _)); skip))
  have HLe : Hid (leftIn (w6.setRow (w.heap.size) (grCells (⟨1 + n, p, s, 1 + m⟩ : Gr)).toArray) C = leftIn w6 C) := Lib.hid (leftIn_of (setRow_other _ _ _ _ (Nat.ne_of_lt HLt.out)))
  have HS6 : Hid (DrH w C [.ob (w.heap.size) 29 (grCells (⟨1 + n, p, s, 1 + m⟩ : Gr))] (w6.setRow (w.heap.size) (grCells (⟨1 + n, p, s, 1 + m⟩ : Gr)).toArray)) := (HS5.out).row 0 rfl (grCells (⟨1 + n, p, s, 1 + m⟩ : Gr))
  clear HS5
  generalize (w6.setRow (w.heap.size) (grCells (⟨1 + n, p, s, 1 + m⟩ : Gr)).toArray) = w7 at *
  refine bodyPost_ret (results_ob Try.results14 _ _ (w.heap.size) (grCells ⟨1 + n, p, s, 1 + m⟩) 29 _ rfl ((HS6.out).get 0 rfl) HUG.out rfl info_gr) rfl ?_
  exact ⟨⟨1 + n, p, s, 1 + m⟩, rfl, ⟨by simp only; omega, by simp only; omega, by simp only; omega, by simp only; omega⟩, by simp only; omega, (HS6.out).bes, (HS6.out).codes, by have l0 := HL0.out; have l1 := HL1.out; have l2 := HL2.out; have l3 := HL3.out; have l4 := HL4.out; have l5 := HLe.out; omega⟩
theorem grant_any (C : Nat) (w : World) (h : CodesOk w C) :
    Calls Try.prog 14 #[.pointer (some ⟨C, 0, none⟩)] w (GrantPost C w) := by
  refine (grant5_any C w h).mono ?_
  rintro e w' ⟨g, h1, h2, _, h3⟩
  exact ⟨g, h1, h2, h3⟩
end Go.Proofs.Ytcnaalbpbalgdaa
