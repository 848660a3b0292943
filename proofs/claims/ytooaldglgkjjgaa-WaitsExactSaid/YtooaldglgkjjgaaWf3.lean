/- texts of a claim, one after the other: the reference's Request, the program's small functions on grants: comparing, the order, conflicts, validity, what finds grants (locks), the program's order of grants (locks), the program's order, conflicts, validity, and what finds grants (locks), the library's searches through grants, by whatever function that reads, and in the order of what is held; what the program makes of them (locks), the program's place, mode, holders, upgrade (locks) -/
import Derived.Test.YtooaldglgkjjgaaWf1
import Derived.Test.YtooaldglgkjjgaaWf2
import Derived.Deep.CutBlock
import Derived.Shelf.Abstract
/- the reference's Request -/
namespace Go.Proofs.Ytooaldglgkjjgaa
open Go.RowKit
open Go.Act renaming put → z0
open List renaming setIfInBounds_toArray → z1, set_cons_zero → z2, set_cons_succ → z3
set_option maxRecDepth 20000
set_option linter.unusedSimpArgs false
set_option linter.unusedVariables false

theorem waitR_good {t : Tb} (hg : GoodTb t) (tx : Int) : GoodGr (waitR t tx).1:=by
 unfold waitR
 split
 ·cases h : wfind t.wait tx with
  | none=>exact grNil_good
  | some x=>exact hg.wait x (wfind_some h).1
 ·exact grNil_good
theorem grEq_same (a b : Gr) : sameV a b = grEqB a b:=by rw [Bool.eq_iff_iff, sameV_iff, grEqB_iff]
theorem added_eq (t : Tb) (g : Gr) : addedR t g = ⟨t.held, t.wait.take (wplaceR t.held t.wait g) ++ ([g] ++ t.wait.drop (wplaceR t.held t.wait g))⟩:=rfl
theorem place_le (h l : List Gr) (g : Gr) : wplaceR h l g ≤ l.length:=by
 unfold wplaceR
 split
 ·exact Nat.le_refl _
 ·exact List.findIdx_le_length
abbrev qRfLk9_0 : Oper:={ dst:=some 34, op:=Op.load 25 (Operand.tmp 2), type:=25, pos := "ref.go:161", after:=#[], guard:=none }
abbrev qRfLk9_1 : Oper:={ dst:=some 35, op:=Op.fieldAddr 29 (Operand.tmp 3) 0, type:=0, pos := "ref.go:161", after:=#[], guard:=none }
abbrev qRfLk9_2 : Oper:={ dst:=some 36, op:=Op.load 3 (Operand.tmp 35), type:=3, pos := "ref.go:161", after:=#[{ on:=1, ground:=Ground.data }], guard:=none }
abbrev qRfLk9_3 : Oper:={ dst:=some 37, op:=Op.fieldAddr 29 (Operand.tmp 3) 1, type:=0, pos := "ref.go:161", after:=#[], guard:=none }
abbrev qRfLk9_4 : Oper:={ dst:=some 38, op:=Op.load 27 (Operand.tmp 37), type:=27, pos := "ref.go:161", after:=#[{ on:=3, ground:=Ground.data }], guard:=none }
abbrev qRfLk9_5 : Oper:={ dst:=some 40, op:=Op.fieldAddr 29 (Operand.tmp 3) 2, type:=0, pos := "ref.go:161", after:=#[], guard:=none }
abbrev qRfLk9_6 : Oper:={ dst:=some 41, op:=Op.load 3 (Operand.tmp 40), type:=3, pos := "ref.go:161", after:=#[{ on:=6, ground:=Ground.data }], guard:=none }
abbrev qRfLk9_7 : Oper:={ dst:=some 39, op:=Op.call { callee:=Callee.value (Operand.func 51), args:=#[Operand.tmp 34, Operand.tmp 36, Operand.tmp 38], argTypes:=#[25, 3, 27] }, type:=3, pos := "ref.go:161", after:=#[{ on:=0, ground:=Ground.data }, { on:=2, ground:=Ground.data }, { on:=4, ground:=Ground.data }], guard:=none }
abbrev qRfLk9_8 : Oper:={ dst:=some 42, op:=Op.binOp BinOp.geq 3 (Operand.tmp 39) (Operand.tmp 41) 3, type:=4, pos := "ref.go:161", after:=#[{ on:=5, ground:=Ground.data }, { on:=7, ground:=Ground.data }], guard:=none }
abbrev qRfLk9_9 : Oper:={ dst:=some 56, op:=Op.fieldAddr 25 (Operand.tmp 2) 1, type:=0, pos := "ref.go:168", after:=#[], guard:=none }
abbrev qRfLk9_10 : Oper:={ dst:=some 58, op:=Op.move (Operand.tmp 9), type:=3, pos := "ref.go:168", after:=#[], guard:=none }
abbrev qRfLk9_11 : Oper:={ dst:=some 61, op:=Op.load 29 (Operand.tmp 3), type:=29, pos := "ref.go:168", after:=#[], guard:=none }
abbrev qRfLk9_12 : Oper:={ dst:=some 64, op:=Op.fieldAddr 25 (Operand.tmp 2) 1, type:=0, pos := "ref.go:168", after:=#[], guard:=none }
abbrev qRfLk9_13 : Oper:={ dst:=some 66, op:=Op.move (Operand.tmp 9), type:=3, pos := "ref.go:168", after:=#[], guard:=none }
abbrev qRfLk9_14 : Oper:={ dst:=some 57, op:=Op.load 23 (Operand.tmp 56), type:=23, pos := "ref.go:168", after:=#[{ on:=0, ground:=Ground.data }], guard:=none }
abbrev qRfLk9_15 : Oper:={ dst:=some 62, op:=Op.buildSlice 23 1 #[(0, Operand.tmp 61)], type:=23, pos := "ref.go:168", after:=#[{ on:=5, ground:=Ground.data }], guard:=none }
abbrev qRfLk9_16 : Oper:={ dst:=some 65, op:=Op.load 23 (Operand.tmp 64), type:=23, pos := "ref.go:168", after:=#[{ on:=8, ground:=Ground.data }], guard:=none }
abbrev qRfLk9_17 : Oper:={ dst:=some 59, op:=Op.slice 23 (Operand.tmp 57) none (some (Operand.tmp 58)) none, type:=23, pos := "ref.go:168", after:=#[{ on:=1, ground:=Ground.data }, { on:=2, ground:=Ground.data }], guard:=none }
abbrev qRfLk9_18 : Oper:={ dst:=some 60, op:=Op.call { callee:=Callee.builtin Builtin.append, args:=#[Operand.const (Value.slice none 0 0), Operand.tmp 59], argTypes:=#[23, 23] }, type:=23, pos := "ref.go:168", after:=#[{ on:=3, ground:=Ground.data }], guard:=none }
abbrev qRfLk9_19 : Oper:={ dst:=some 63, op:=Op.call { callee:=Callee.builtin Builtin.append, args:=#[Operand.tmp 60, Operand.tmp 62], argTypes:=#[23, 23] }, type:=23, pos := "ref.go:168", after:=#[{ on:=4, ground:=Ground.data }, { on:=6, ground:=Ground.data }, { on:=4, ground:=Ground.chain }], guard:=none }
abbrev qRfLk9_20 : Oper:={ dst:=some 67, op:=Op.slice 23 (Operand.tmp 65) (some (Operand.tmp 66)) none none, type:=23, pos := "ref.go:168", after:=#[{ on:=9, ground:=Ground.data }, { on:=10, ground:=Ground.data }], guard:=none }
abbrev qRfLk9_21 : Oper:={ dst:=some 68, op:=Op.call { callee:=Callee.builtin Builtin.append, args:=#[Operand.tmp 63, Operand.tmp 67], argTypes:=#[23, 23] }, type:=23, pos := "ref.go:168", after:=#[{ on:=7, ground:=Ground.data }, { on:=11, ground:=Ground.data }, { on:=7, ground:=Ground.chain }], guard:=none }
abbrev qRfLk9_22 : Oper:={ dst:=some 69, op:=Op.fieldAddr 25 (Operand.tmp 2) 1, type:=0, pos := "ref.go:168", after:=#[{ on:=0, ground:=Ground.phase }, { on:=1, ground:=Ground.phase }, { on:=2, ground:=Ground.phase }, { on:=3, ground:=Ground.phase }, { on:=4, ground:=Ground.phase }, { on:=5, ground:=Ground.phase }, { on:=6, ground:=Ground.phase }, { on:=7, ground:=Ground.phase }, { on:=8, ground:=Ground.phase }, { on:=9, ground:=Ground.phase }, { on:=10, ground:=Ground.phase }, { on:=11, ground:=Ground.phase }, { on:=12, ground:=Ground.phase }], guard:=none }
abbrev qRfLk9_23 : Oper:={ dst:=none, op:=Op.store 23 (Operand.tmp 69) (Operand.tmp 68), type:=0, pos := "ref.go:168", after:=#[{ on:=13, ground:=Ground.data }, { on:=12, ground:=Ground.data }, { on:=12, ground:=Ground.chain }, { on:=0, ground:=Ground.phase }, { on:=1, ground:=Ground.phase }, { on:=2, ground:=Ground.phase }, { on:=3, ground:=Ground.phase }, { on:=4, ground:=Ground.phase }, { on:=5, ground:=Ground.phase }, { on:=6, ground:=Ground.phase }, { on:=7, ground:=Ground.phase }, { on:=8, ground:=Ground.phase }, { on:=9, ground:=Ground.phase }, { on:=10, ground:=Ground.phase }, { on:=11, ground:=Ground.phase }, { on:=12, ground:=Ground.phase }], guard:=none }
abbrev qRfLk9_24 : Oper:={ dst:=some 72, op:=Op.load 25 (Operand.tmp 2), type:=25, pos := "ref.go:170", after:=#[], guard:=none }
abbrev qRfLk9_25 : Oper:={ dst:=some 73, op:=Op.load 25 (Operand.tmp 2), type:=25, pos := "ref.go:170", after:=#[], guard:=none }
abbrev qRfLk9_26 : Oper:={ dst:=some 74, op:=Op.fieldAddr 29 (Operand.tmp 3) 0, type:=0, pos := "ref.go:170", after:=#[], guard:=none }
abbrev qRfLk9_27 : Oper:={ dst:=some 75, op:=Op.load 3 (Operand.tmp 74), type:=3, pos := "ref.go:170", after:=#[{ on:=2, ground:=Ground.data }], guard:=none }
abbrev qRfLk9_28 : Oper:={ dst:=some 76, op:=Op.fieldAddr 29 (Operand.tmp 3) 1, type:=0, pos := "ref.go:170", after:=#[], guard:=none }
abbrev qRfLk9_29 : Oper:={ dst:=some 77, op:=Op.load 27 (Operand.tmp 76), type:=27, pos := "ref.go:170", after:=#[{ on:=4, ground:=Ground.data }], guard:=none }
abbrev qRfLk9_30 : Oper:={ dst:=some 79, op:=Op.fieldAddr 29 (Operand.tmp 3) 2, type:=0, pos := "ref.go:170", after:=#[{ on:=10, ground:=Ground.gcOnly Departure.lateStores }], guard:=none }
abbrev qRfLk9_31 : Oper:={ dst:=some 80, op:=Op.load 3 (Operand.tmp 79), type:=3, pos := "ref.go:170", after:=#[{ on:=7, ground:=Ground.data }, { on:=10, ground:=Ground.gcOnly Departure.lateStores }], guard:=none }
abbrev qRfLk9_32 : Oper:={ dst:=some 78, op:=Op.call { callee:=Callee.value (Operand.func 51), args:=#[Operand.tmp 73, Operand.tmp 75, Operand.tmp 77], argTypes:=#[25, 3, 27] }, type:=3, pos := "ref.go:170", after:=#[{ on:=1, ground:=Ground.data }, { on:=3, ground:=Ground.data }, { on:=5, ground:=Ground.data }], guard:=none }
abbrev qRfLk9_33 : Oper:={ dst:=some 81, op:=Op.binOp BinOp.geq 3 (Operand.tmp 78) (Operand.tmp 80) 3, type:=4, pos := "ref.go:170", after:=#[{ on:=6, ground:=Ground.data }, { on:=8, ground:=Ground.data }, { on:=10, ground:=Ground.gcOnly Departure.lateStores }], guard:=none }
abbrev qRfLk9_34 : Oper:={ dst:=none, op:=Op.store 25 (Operand.tmp 4) (Operand.tmp 72), type:=0, pos := "ref.go:170", after:=#[{ on:=0, ground:=Ground.data }, { on:=6, ground:=Ground.chain }, { on:=0, ground:=Ground.phase }, { on:=1, ground:=Ground.textOnly Departure.lateStores }, { on:=2, ground:=Ground.textOnly Departure.lateStores }, { on:=3, ground:=Ground.textOnly Departure.lateStores }, { on:=4, ground:=Ground.textOnly Departure.lateStores }, { on:=5, ground:=Ground.textOnly Departure.lateStores }, { on:=6, ground:=Ground.textOnly Departure.lateStoresUnsure }, { on:=7, ground:=Ground.textOnly Departure.lateStores }, { on:=8, ground:=Ground.textOnly Departure.lateStores }, { on:=9, ground:=Ground.textOnly Departure.lateStores }], guard:=none }
abbrev qRfLk9_35 : Oper:={ dst:=some 5, op:=Op.assign (Operand.tmp 81), type:=4, pos := "ref.go:170", after:=#[{ on:=9, ground:=Ground.data }, { on:=10, ground:=Ground.chain }, { on:=0, ground:=Ground.phase }, { on:=1, ground:=Ground.phase }, { on:=2, ground:=Ground.phase }, { on:=3, ground:=Ground.phase }, { on:=4, ground:=Ground.phase }, { on:=5, ground:=Ground.phase }, { on:=6, ground:=Ground.phase }, { on:=7, ground:=Ground.phase }, { on:=8, ground:=Ground.phase }, { on:=9, ground:=Ground.phase }, { on:=10, ground:=Ground.phase }], guard:=none }
abbrev qRfLk9_36 : Oper:={ dst:=some 6, op:=Op.assign (Operand.const (Value.int IntKind.i64 0)), type:=42, pos := "ref.go:170", after:=#[{ on:=11, ground:=Ground.chain }, { on:=0, ground:=Ground.phase }, { on:=1, ground:=Ground.phase }, { on:=2, ground:=Ground.phase }, { on:=3, ground:=Ground.phase }, { on:=4, ground:=Ground.phase }, { on:=5, ground:=Ground.phase }, { on:=6, ground:=Ground.phase }, { on:=7, ground:=Ground.phase }, { on:=8, ground:=Ground.phase }, { on:=9, ground:=Ground.phase }, { on:=10, ground:=Ground.phase }, { on:=11, ground:=Ground.phase }], guard:=none }
set_option maxHeartbeats 16000000 in
theorem rrequest_any {h v : Value} {t : Tb} {R : List Rng} (g : Gr) (w : World) (ht : TbRd h v t R) (hR : RdIn w R) (hg : GoodTb t) (hk : GoodGr g) :
  Calls Try.prog 28 #[.agg (tbCells h v).toArray, .agg (grCells g).toArray] w (TbPost3 w R (requestR t g)):=by
 obtain ⟨a, cap, rfl, hnc, hcm⟩:=ht.1.shape
 obtain ⟨a2, cap2, rfl, hnc2, hcm2⟩:=ht.2.shape
 have HT:=Lib.hid ht
 have HR:=Lib.hid hR
 have HK:=Lib.hid hk
 have HUX:=Lib.hid under_grs
 have HVa : Hid (∀ W, Below w.heap.size w W → Calls Try.prog 25 #[.agg (tbCells (.slice a t.held.length cap) (.slice a2 t.wait.length cap2)).toArray] W fun e w'=>e = .returned (.bool (tbOkB t)) ∧ Below W.heap.size W w'):=fun W hb=>rlkvalid_any W ht (hR.below hb) hg
 have HGr : Hid (∀ W, Calls Try.prog 49 #[.agg (grCells g).toArray] W fun e w'=>e = .returned (.bool (grOkB g)) ∧ Below W.heap.size W w'):=fun W=>rgrant_any g W
 have HWa : Hid (∀ W, Below w.heap.size w W → Calls Try.prog 33 #[.agg (tbCells (.slice a t.held.length cap) (.slice a2 t.wait.length cap2)).toArray, .int .i64 g.tx] W fun e w'=>e = .returned (.tuple #[.agg (grCells (waitR t g.tx).1).toArray, .bool (waitR t g.tx).2]) ∧ Below W.heap.size W w'):=fun W hb=>rWaiting_any g.tx W ht (hR.below hb) hg
 have HMo : Hid (∀ W, Below w.heap.size w W → Calls Try.prog 51 #[.agg (tbCells (.slice a t.held.length cap) (.slice a2 t.wait.length cap2)).toArray, .int .i64 g.tx, .agg (lkCells g.lock).toArray] W fun e w'=>e = .returned (.int .i64 (modeG t.held g)) ∧ Below W.heap.size W w'):=fun W hb=>rmode_any g.tx g.lock W ht (hR.below hb) hg hk.lock
 have HPl : Hid (∀ W, Below w.heap.size w W → Calls Try.prog 54 #[.agg (tbCells (.slice a t.held.length cap) (.slice a2 t.wait.length cap2)).toArray, .agg (grCells g).toArray] W fun e w'=>e = .returned (.int .i64 (wplaceR t.held t.wait g : Nat)) ∧ Below W.heap.size W w'):=fun W hb=>rplace_any g W ht (hR.below hb) hg hk
 have HGw:=Lib.hid (waitR_good hg g.tx)
 have HLen : Hid (tbOkB t = true → t.held.length + t.wait.length ≤ 1024):=fun h=>(tbOkB_iff.1 h).few
 have HAd : Hid (tbOkB t = true → grOkB g = true → (waitR t g.tx).2 = false → ¬ g.mode ≤ modeG t.held g → TbIn (addedR t g)):=fun h1 h2 h3 h4=>by
  have hok:=tbOkB_iff.1 h1
  rw [waitR_of hok] at h3
  refine added_in hok (grOkB_iff.1 h2) (wfind_none ?_) (by omega)
  simpa using h3
 have HD : Hid (requestR t g = if tbOkB t = false then (tbNil, false, 17)
  else if grOkB g = false then (tbNil, false, 1)
  else if (waitR t g.tx).2 = true then (if grEqB (waitR t g.tx).1 g = true then (t, false, 0) else (tbNil, false, 15))
  else if g.mode ≤ modeG t.held g then (t, true, 0)
  else if t.held.length + t.wait.length = 1024 then (tbNil, false, 21)
  else (settleR (addedR t g), decide (g.mode ≤ modeG (settleR (addedR t g)).held g), 0)):=rfl
 have hfew:=hg.few
 clear ht hg hk
 have h1:=(((Hp.startrd w R hR).put 25 (tbCells (.slice a t.held.length cap) (.slice a2 t.wait.length cap2))).put 29 (grCells g)).put 25 (tbCells (.slice none 0 0) (.slice none 0 0))
 simp only [World.size_alloc, List.nil_append, List.cons_append] at h1
 have h2:=h1.pull [1, 2, 3, 0] (M:=[.ob w.heap.size 25 (tbCells (.slice a t.held.length cap) (.slice a2 t.wait.length cap2)), .ob (w.heap.size + 1) 29 (grCells g), .ob (w.heap.size + 1 + 1) 25 (tbCells (.slice none 0 0) (.slice none 0 0)), .rd R]) rfl (pull_nd h1.nd [1, 2, 3, 0] rfl (by decide))
 have HS0 : Hid (Hp w [.ob w.heap.size 25 (tbCells (.slice a t.held.length cap) (.slice a2 t.wait.length cap2)), .ob (w.heap.size + 1) 29 (grCells g), .ob (w.heap.size + 1 + 1) 25 (tbCells (.slice none 0 0) (.slice none 0 0)), .rd R] (((w.alloc (.cells (tbCells (.slice a t.held.length cap) (.slice a2 t.wait.length cap2)).toArray 25)).alloc (.cells (grCells g).toArray 29)).alloc (.cells #[.slice none 0 0, .slice none 0 0] 25))):=h2
 clear h1 h2 hR
 obtain ⟨fsHUG, huHUG⟩:=under_gr
 have HUG:=Lib.hid huHUG
 clear huHUG
 obtain ⟨fsHUK, huHUK⟩:=under_lk
 have HUK:=Lib.hid huHUK
 clear huHUK
 obtain ⟨fsHUT, huHUT⟩:=under_tb
 have HUT:=Lib.hid huHUT
 clear huHUT
 generalize tbOkB t = ok at *
 generalize grOkB g = gk at *
 generalize modeG t.held g = mo at *
 obtain ⟨wx, wb, hwx⟩ : ∃ wx wb, waitR t g.tx = (wx, wb):=⟨_, _, rfl⟩
 rw [hwx] at HWa HGw HAd HD
 clear hwx
 simp only at HWa HGw HAd HD
 obtain ⟨rq, hrq⟩ : ∃ rq, requestR t g = rq:=⟨_, rfl⟩
 rw [hrq] at HD
 rw [hrq]
 clear hrq
 go_enter Try.func28, Try.ntmps28
 go_upto_region 1 with (fail)
 generalize (((w.alloc (.cells (tbCells (.slice a t.held.length cap) (.slice a2 t.wait.length cap2)).toArray 25)).alloc (.cells (grCells g).toArray 29)).alloc (.cells #[.slice none 0 0, .slice none 0 0] 25)) = w1 at *
 generalize w.heap.size + 1 + 1 = b4 at *
 generalize w.heap.size + 1 = b3 at *
 have b0 : w1.cell? ⟨w.heap.size, 0, none⟩ = some (.slice a t.held.length cap):=HS0.out.at 0 rfl 0 rfl
 have b1 : w1.cell? ⟨w.heap.size, 1, none⟩ = some (.slice a2 t.wait.length cap2):=HS0.out.at 0 rfl 1 rfl
 go_wp2_with fail
 refine (HVa.out _ HS0.out.old).mono ?_
 rintro e w21 ⟨rfl, hb⟩
 have HQ21:=Lib.hid (HS0.out.calls hb)
 clear hb b0 b1 HVa HS0
 cases ok
 ·skip
  go_wp2_with (first | ((with_reducible refine wpList_build_v (d:=some 13) 25 (.agg (tbCells (.slice none 0 0) (.slice none 0 0)).toArray) ?_ ?_);(intro W;simp only [List.map_toArray, List.map_cons, List.map_nil];exact build_tb0 W);simp only [z0, z1, z2, z3]) | ((with_reducible refine wpList_store_ob 25 (.tmp 4) b4 (tbCells (.slice none 0 0) (.slice none 0 0)) (tbCells (.slice none 0 0) (.slice none 0 0)) 25 ?_ ?_ ?_ ?_ ?_ ?_ ?_);(exact rfl);(exact rfl);(exact (HQ21.out).get 2 rfl);(exact info_tb);(exact rfl);(exact (oneCell_tb _ _ _ _ _ _));skip))
  have HS42 : Hid (Hp w [.ob (w.heap.size) 25 (tbCells (.slice a t.held.length cap) (.slice a2 t.wait.length cap2)), .ob b3 29 (grCells g), .ob b4 25 (tbCells (.slice none 0 0) (.slice none 0 0)), .rd R] (w21.setRow b4 (tbCells (.slice none 0 0) (.slice none 0 0)).toArray)):=(HQ21.out).row 2 rfl (tbCells (.slice none 0 0) (.slice none 0 0))
  clear HQ21
  generalize (w21.setRow b4 (tbCells (.slice none 0 0) (.slice none 0 0)).toArray) = w42 at *
  refine bodyPost_ret (results_ob_tmp2 Try.results28 _ _ b4 (tbCells (.slice none 0 0) (.slice none 0 0)) 25 _ rfl ((HS42.out).get 2 rfl) HUT.out rfl info_tb) rfl ?_
  exact TbPost3.none (by rw [HD.out];rfl) (HS42.out).old
 have g0 : w21.cell? ⟨b3, 0, none⟩ = some (.int .i64 g.tx):=HQ21.out.at 1 rfl 0 rfl
 have g1 : w21.cell? ⟨b3, 1, none⟩ = some (.int .i64 g.page):=HQ21.out.at 1 rfl 1 rfl
 have g2 : w21.cell? ⟨b3, 2, none⟩ = some (.int .i64 g.slot):=HQ21.out.at 1 rfl 2 rfl
 have g3 : w21.cell? ⟨b3, 3, none⟩ = some (.int .i64 g.mode):=HQ21.out.at 1 rfl 3 rfl
 go_wp2_with fail
 refine (HGr.out _).mono ?_
 rintro e w42 ⟨rfl, hb⟩
 have HQ42:=Lib.hid (HQ21.out.calls hb)
 clear hb g0 g1 g2 g3 HGr HQ21
 cases gk
 ·skip
  go_wp2_with (first | ((with_reducible refine wpList_build_v (d:=some 17) 25 (.agg (tbCells (.slice none 0 0) (.slice none 0 0)).toArray) ?_ ?_);(intro W;simp only [List.map_toArray, List.map_cons, List.map_nil];exact build_tb0 W);simp only [z0, z1, z2, z3]) | ((with_reducible refine wpList_store_ob 25 (.tmp 4) b4 (tbCells (.slice none 0 0) (.slice none 0 0)) (tbCells (.slice none 0 0) (.slice none 0 0)) 25 ?_ ?_ ?_ ?_ ?_ ?_ ?_);(exact rfl);(exact rfl);(exact (HQ42.out).get 2 rfl);(exact info_tb);(exact rfl);(exact (oneCell_tb _ _ _ _ _ _));skip))
  have HS63 : Hid (Hp w [.ob (w.heap.size) 25 (tbCells (.slice a t.held.length cap) (.slice a2 t.wait.length cap2)), .ob b3 29 (grCells g), .ob b4 25 (tbCells (.slice none 0 0) (.slice none 0 0)), .rd R] (w42.setRow b4 (tbCells (.slice none 0 0) (.slice none 0 0)).toArray)):=(HQ42.out).row 2 rfl (tbCells (.slice none 0 0) (.slice none 0 0))
  clear HQ42
  generalize (w42.setRow b4 (tbCells (.slice none 0 0) (.slice none 0 0)).toArray) = w63 at *
  refine bodyPost_ret (results_ob_tmp2 Try.results28 _ _ b4 (tbCells (.slice none 0 0) (.slice none 0 0)) 25 _ rfl ((HS63.out).get 2 rfl) HUT.out rfl info_tb) rfl ?_
  exact TbPost3.none (by rw [HD.out];rfl) (HS63.out).old
 have HLn : Hid (t.held.length + t.wait.length ≤ 1024):=Lib.hid (HLen.out (by first | trivial | rfl))
 have b0 : w42.cell? ⟨w.heap.size, 0, none⟩ = some (.slice a t.held.length cap):=HQ42.out.at 0 rfl 0 rfl
 have b1 : w42.cell? ⟨w.heap.size, 1, none⟩ = some (.slice a2 t.wait.length cap2):=HQ42.out.at 0 rfl 1 rfl
 have g0 : w42.cell? ⟨b3, 0, none⟩ = some (.int .i64 g.tx):=HQ42.out.at 1 rfl 0 rfl
 have g1 : w42.cell? ⟨b3, 1, none⟩ = some (.int .i64 g.page):=HQ42.out.at 1 rfl 1 rfl
 have g2 : w42.cell? ⟨b3, 2, none⟩ = some (.int .i64 g.slot):=HQ42.out.at 1 rfl 2 rfl
 have g3 : w42.cell? ⟨b3, 3, none⟩ = some (.int .i64 g.mode):=HQ42.out.at 1 rfl 3 rfl
 go_wp2_with fail
 refine (HWa.out _ HQ42.out.old).mono ?_
 rintro e w63 ⟨rfl, hb⟩
 have HQ63:=Lib.hid (HQ42.out.calls hb)
 clear hb b0 b1 g0 g1 g2 g3 HWa HQ42
 go_upto_region 6 with (first | ((with_reducible refine wpList_alloc_ob 29 (grCells grNil) ?_ ?_);(exact alloc_gr);simp only [z0, z1, z2, z3]) | ((with_reducible refine wpList_store_ob 29 (.tmp 7) (w63.heap.size) (grCells wx) (grCells grNil) 29 ?_ ?_ ?_ ?_ ?_ ?_ ?_);(exact rfl);(exact rfl);(exact ((HQ63.out).put 29 (grCells grNil)).get 4 rfl);(exact info_gr);(exact rfl);(exact (oneCell_gr _));skip))
 have HS84 : Hid (Hp w [.ob (w.heap.size) 25 (tbCells (.slice a t.held.length cap) (.slice a2 t.wait.length cap2)), .ob b3 29 (grCells g), .ob b4 25 (tbCells (.slice none 0 0) (.slice none 0 0)), .rd R, .ob (w63.heap.size) 29 (grCells wx)] ((w63.alloc (.cells (grCells grNil).toArray 29)).setRow (w63.heap.size) (grCells wx).toArray)):=((HQ63.out).put 29 (grCells grNil)).row 4 rfl (grCells wx)
 clear HQ63
 generalize ((w63.alloc (.cells (grCells grNil).toArray 29)).setRow (w63.heap.size) (grCells wx).toArray) = w84 at *
 generalize w63.heap.size = B84 at *
 cases wb
 case true =>
  have hqe : ∀ W, Sem.run Try.prog (binOp .neq 29 (.agg (grCells wx).toArray) (.agg (grCells g).toArray)) W = .ok (.bool (!sameV wx g)) W:=fun W=>run_neq (equal_gr wx g HGw.out HK.out) W
  have hsm:=grEq_same wx g
  simp only [grCells] at hqe
  have x0 : w84.cell? ⟨B84, 0, none⟩ = some (.int .i64 wx.tx):=HS84.out.at 4 rfl 0 rfl
  have x1 : w84.cell? ⟨B84, 1, none⟩ = some (.int .i64 wx.page):=HS84.out.at 4 rfl 1 rfl
  have x2 : w84.cell? ⟨B84, 2, none⟩ = some (.int .i64 wx.slot):=HS84.out.at 4 rfl 2 rfl
  have x3 : w84.cell? ⟨B84, 3, none⟩ = some (.int .i64 wx.mode):=HS84.out.at 4 rfl 3 rfl
  have g0 : w84.cell? ⟨b3, 0, none⟩ = some (.int .i64 g.tx):=HS84.out.at 1 rfl 0 rfl
  have g1 : w84.cell? ⟨b3, 1, none⟩ = some (.int .i64 g.page):=HS84.out.at 1 rfl 1 rfl
  have g2 : w84.cell? ⟨b3, 2, none⟩ = some (.int .i64 g.slot):=HS84.out.at 1 rfl 2 rfl
  have g3 : w84.cell? ⟨b3, 3, none⟩ = some (.int .i64 g.mode):=HS84.out.at 1 rfl 3 rfl
  cases hsv : sameV wx g
  ·have HE : Hid (rq = (tbNil, false, 15)):=Lib.hid (by rw [hsv] at hsm;rw [HD.out, ← hsm];simp)
   rw [hsv] at hqe
   clear hsv hsm
   go_upto_region 7 with (fail)
   clear x0 x1 x2 x3 g0 g1 g2 g3 hqe
   go_wp2_with (first | ((with_reducible refine wpList_build_v (d:=some 31) 25 (.agg (tbCells (.slice none 0 0) (.slice none 0 0)).toArray) ?_ ?_);(intro W;simp only [List.map_toArray, List.map_cons, List.map_nil];exact build_tb0 W);simp only [z0, z1, z2, z3]) | ((with_reducible refine wpList_store_ob 25 (.tmp 4) b4 (tbCells (.slice none 0 0) (.slice none 0 0)) (tbCells (.slice none 0 0) (.slice none 0 0)) 25 ?_ ?_ ?_ ?_ ?_ ?_ ?_);(exact rfl);(exact rfl);(exact (HS84.out).get 2 rfl);(exact info_tb);(exact rfl);(exact (oneCell_tb _ _ _ _ _ _));skip))
   have HS110 : Hid (Hp w [.ob (w.heap.size) 25 (tbCells (.slice a t.held.length cap) (.slice a2 t.wait.length cap2)), .ob b3 29 (grCells g), .ob b4 25 (tbCells (.slice none 0 0) (.slice none 0 0)), .rd R, .ob B84 29 (grCells wx)] (w84.setRow b4 (tbCells (.slice none 0 0) (.slice none 0 0)).toArray)):=(HS84.out).row 2 rfl (tbCells (.slice none 0 0) (.slice none 0 0))
   clear HS84
   generalize (w84.setRow b4 (tbCells (.slice none 0 0) (.slice none 0 0)).toArray) = w110 at *
   refine bodyPost_ret (results_ob_tmp2 Try.results28 _ _ b4 (tbCells (.slice none 0 0) (.slice none 0 0)) 25 _ rfl ((HS110.out).get 2 rfl) HUT.out rfl info_tb) rfl ?_
   exact TbPost3.none (by exact HE.out) (HS110.out).old
  ·have HE : Hid (rq = (t, false, 0)):=Lib.hid (by rw [hsv] at hsm;rw [HD.out, ← hsm];simp)
   rw [hsv] at hqe
   clear hsv hsm
   go_upto_region 9 with (fail)
   clear x0 x1 x2 x3 g0 g1 g2 g3 hqe
   go_wp2_with (first | ((with_reducible refine wpList_load_ob 25 (.tmp 2) (w.heap.size) (tbCells (.slice a t.held.length cap) (.slice a2 t.wait.length cap2)) 25 HUT.out ?_ ?_ ?_ ?_ ?_);(exact rfl);(exact (HS84.out).get 0 rfl);(exact rfl);(exact info_tb);simp only [z0, z1, z2, z3]) | ((with_reducible refine wpList_store_ob 25 (.tmp 4) b4 (tbCells (.slice a t.held.length cap) (.slice a2 t.wait.length cap2)) (tbCells (.slice none 0 0) (.slice none 0 0)) 25 ?_ ?_ ?_ ?_ ?_ ?_ ?_);(exact rfl);(exact rfl);(exact (HS84.out).get 2 rfl);(exact info_tb);(exact rfl);(exact (oneCell_tb _ _ _ _ _ _));skip))
   have HS130 : Hid (Hp w [.ob (w.heap.size) 25 (tbCells (.slice a t.held.length cap) (.slice a2 t.wait.length cap2)), .ob b3 29 (grCells g), .ob b4 25 (tbCells (.slice a t.held.length cap) (.slice a2 t.wait.length cap2)), .rd R, .ob B84 29 (grCells wx)] (w84.setRow b4 (tbCells (.slice a t.held.length cap) (.slice a2 t.wait.length cap2)).toArray)):=(HS84.out).row 2 rfl (tbCells (.slice a t.held.length cap) (.slice a2 t.wait.length cap2))
   clear HS84
   generalize (w84.setRow b4 (tbCells (.slice a t.held.length cap) (.slice a2 t.wait.length cap2)).toArray) = w130 at *
   refine bodyPost_ret (results_ob_tmp2 Try.results28 _ _ b4 (tbCells (.slice a t.held.length cap) (.slice a2 t.wait.length cap2)) 25 _ rfl ((HS130.out).get 2 rfl) HUT.out rfl info_tb) rfl ?_
   exact TbPost3.same (by exact HE.out) HT.out HR.out (HS130.out).old
 case false =>
  have HAd2:=Lib.hid (fun h=>HAd.out (by first | trivial | rfl) (by first | trivial | rfl) (by first | trivial | rfl) h)
  have HD2 : Hid (rq = if g.mode ≤ mo then (t, true, 0) else if t.held.length + t.wait.length = 1024 then (tbNil, false, 21) else (settleR (addedR t g), decide (g.mode ≤ modeG (settleR (addedR t g)).held g), 0)):=Lib.hid (by rw [HD.out];simp)
  clear HD HAd HLen
  go_wp2_with fail
  by_cases hmo : g.mode ≤ mo
  ·have HE : Hid (rq = (t, true, 0)):=Lib.hid (by rw [HD2.out, if_pos hmo])
   have dm : decide (g.mode ≤ mo) = true:=decide_eq_true hmo
   clear hmo HD2
   refine wp_region_held_drew (S:=fun w'=>w'.rangeAt w.heap.size 0 (tbCells (.slice a t.held.length cap) (.slice a2 t.wait.length cap2)) ∧ w'.rangeAt b3 0 (grCells g)) (by kernel_rfl) (⟨(fun j v hv=>by rw [Nat.zero_add];exact ((HS84.out).drew).at 0 rfl j hv), (fun j v hv=>by rw [Nat.zero_add];exact ((HS84.out).drew).at 1 rfl j hv)⟩) (fun hHeld=>?_)
   refine tk 0 qRfLk9_0 (some 34) (yieldsIf_load_mid (by rfl) 25 (.tmp 2) rfl w.heap.size (0) rfl (tbCells (.slice a t.held.length cap) (.slice a2 t.wait.length cap2)) _ (fun _ h=>h.1) HUT.out rfl (info_tb)) hHeld ?_
   try simp only [z0, z1, z2, z3]
   refine tk 1 qRfLk9_1 (some 35) (v:=?q602v) (Or.inl ⟨by rfl, ?q602h⟩) hHeld ?q602r
   case q602h=>(intro _ h;clear h;go_simp;try with_reducible rfl)
   try simp only [z0, z1, z2, z3]
   refine tk 2 qRfLk9_2 (some 36) (v:=.int .i64 g.tx) (Or.inl ⟨by rfl, ?q603h⟩) hHeld ?q603r
   case q603h=>(intro wq hSw;have lq:=(hSw.2) 0 (.int .i64 g.tx) rfl;simp only [Nat.zero_add] at lq;clear hSw;go_simp;try with_reducible rfl)
   try simp only [z0, z1, z2, z3]
   refine tk 3 qRfLk9_3 (some 37) (v:=?q604v) (Or.inl ⟨by rfl, ?q604h⟩) hHeld ?q604r
   case q604h=>(intro _ h;clear h;go_simp;try with_reducible rfl)
   try simp only [z0, z1, z2, z3]
   refine tk 4 qRfLk9_4 (some 38) (yieldsIf_load_mid (by rfl) 27 (.tmp 37) rfl b3 (1) rfl (lkCells g.lock) _ (fun _ h=>range_part (h.2) (mid_lk g)) HUK.out rfl (info_lk)) hHeld ?_
   try simp only [z0, z1, z2, z3]
   refine tk 6 qRfLk9_5 (some 40) (v:=?q606v) (Or.inl ⟨by rfl, ?q606h⟩) hHeld ?q606r
   case q606h=>(intro _ h;clear h;go_simp;try with_reducible rfl)
   try simp only [z0, z1, z2, z3]
   refine tk 7 qRfLk9_6 (some 41) (v:=.int .i64 g.mode) (Or.inl ⟨by rfl, ?q607h⟩) hHeld ?q607r
   case q607h=>(intro wq hSw;have lq:=(hSw.2) 3 (.int .i64 g.mode) rfl;simp only [Nat.zero_add] at lq;clear hSw;go_simp;try with_reducible rfl)
   try simp only [z0, z1, z2, z3]
   refine tn 5 qRfLk9_7 (fun K hK=>?_)
   go_simp
   go_wp2_with (go_at_call 51;refine (HMo.out _ ((HS84.out).drew).old).mono ?_;rintro e w150 ⟨rfl, hb⟩)
   have HS150:=Lib.hid (((HS84.out).drew).calls hb)
   refine hK.out _ _ (⟨(fun j v hv=>by rw [Nat.zero_add];exact (HS150.out).at 0 rfl j hv), (fun j v hv=>by rw [Nat.zero_add];exact (HS150.out).at 1 rfl j hv)⟩) (fun hHeld=>?_)
   clear hK K hb
   try simp only [z0, z1, z2, z3]
   refine tk 8 qRfLk9_8 (some 42) (v:=.bool true) (Or.inl ⟨by rfl, ?q608h⟩) hHeld ?q608r
   case q608h=>(intro _ h;clear h;go_simp;try with_reducible rfl)
   try simp only [z0, z1, z2, z3]
   refine wpAnyH_done (by kernel_rfl) ?_ _
   clear hHeld
   go_wp2_with (first | ((with_reducible refine wpList_load_ob 25 (.tmp 2) (w.heap.size) (tbCells (.slice a t.held.length cap) (.slice a2 t.wait.length cap2)) 25 HUT.out ?_ ?_ ?_ ?_ ?_);(exact rfl);(exact (HS150.out).get 0 rfl);(exact rfl);(exact info_tb);simp only [z0, z1, z2, z3]) | ((with_reducible refine wpList_store_ob 25 (.tmp 4) b4 (tbCells (.slice a t.held.length cap) (.slice a2 t.wait.length cap2)) (tbCells (.slice none 0 0) (.slice none 0 0)) 25 ?_ ?_ ?_ ?_ ?_ ?_ ?_);(exact rfl);(exact rfl);(exact (HS150.out).get 2 rfl);(exact info_tb);(exact rfl);(exact (oneCell_tb _ _ _ _ _ _));skip))
   have HS176 : Hid (Hp w [.ob (w.heap.size) 25 (tbCells (.slice a t.held.length cap) (.slice a2 t.wait.length cap2)), .ob b3 29 (grCells g), .ob b4 25 (tbCells (.slice a t.held.length cap) (.slice a2 t.wait.length cap2)), .rd R, .ob B84 29 (grCells wx)] (w150.setRow b4 (tbCells (.slice a t.held.length cap) (.slice a2 t.wait.length cap2)).toArray)):=(HS150.out).row 2 rfl (tbCells (.slice a t.held.length cap) (.slice a2 t.wait.length cap2))
   clear HS150
   generalize (w150.setRow b4 (tbCells (.slice a t.held.length cap) (.slice a2 t.wait.length cap2)).toArray) = w176 at *
   refine bodyPost_ret (results_ob_tmp2 Try.results28 _ _ b4 (tbCells (.slice a t.held.length cap) (.slice a2 t.wait.length cap2)) 25 _ rfl ((HS176.out).get 2 rfl) HUT.out rfl info_tb) rfl ?_
   exact TbPost3.same (by exact HE.out) HT.out HR.out (HS176.out).old
  have HD3 : Hid (rq = if t.held.length + t.wait.length = 1024 then (tbNil, false, 21) else (settleR (addedR t g), decide (g.mode ≤ modeG (settleR (addedR t g)).held g), 0)):=Lib.hid (by rw [HD2.out, if_neg hmo])
  have HIn:=Lib.hid (HAd2.out (by omega))
  have dm : decide (g.mode ≤ mo) = false:=decide_eq_false hmo
  clear hmo HD2 HAd2
  refine wp_region_held_drew (S:=fun w'=>w'.rangeAt w.heap.size 0 (tbCells (.slice a t.held.length cap) (.slice a2 t.wait.length cap2)) ∧ w'.rangeAt b3 0 (grCells g)) (by kernel_rfl) (⟨(fun j v hv=>by rw [Nat.zero_add];exact ((HS84.out).drew).at 0 rfl j hv), (fun j v hv=>by rw [Nat.zero_add];exact ((HS84.out).drew).at 1 rfl j hv)⟩) (fun hHeld=>?_)
  refine tk 0 qRfLk9_0 (some 34) (yieldsIf_load_mid (by rfl) 25 (.tmp 2) rfl w.heap.size (0) rfl (tbCells (.slice a t.held.length cap) (.slice a2 t.wait.length cap2)) _ (fun _ h=>h.1) HUT.out rfl (info_tb)) hHeld ?_
  try simp only [z0, z1, z2, z3]
  refine tk 1 qRfLk9_1 (some 35) (v:=?q702v) (Or.inl ⟨by rfl, ?q702h⟩) hHeld ?q702r
  case q702h=>(intro _ h;clear h;go_simp;try with_reducible rfl)
  try simp only [z0, z1, z2, z3]
  refine tk 2 qRfLk9_2 (some 36) (v:=.int .i64 g.tx) (Or.inl ⟨by rfl, ?q703h⟩) hHeld ?q703r
  case q703h=>(intro wq hSw;have lq:=(hSw.2) 0 (.int .i64 g.tx) rfl;simp only [Nat.zero_add] at lq;clear hSw;go_simp;try with_reducible rfl)
  try simp only [z0, z1, z2, z3]
  refine tk 3 qRfLk9_3 (some 37) (v:=?q704v) (Or.inl ⟨by rfl, ?q704h⟩) hHeld ?q704r
  case q704h=>(intro _ h;clear h;go_simp;try with_reducible rfl)
  try simp only [z0, z1, z2, z3]
  refine tk 4 qRfLk9_4 (some 38) (yieldsIf_load_mid (by rfl) 27 (.tmp 37) rfl b3 (1) rfl (lkCells g.lock) _ (fun _ h=>range_part (h.2) (mid_lk g)) HUK.out rfl (info_lk)) hHeld ?_
  try simp only [z0, z1, z2, z3]
  refine tk 6 qRfLk9_5 (some 40) (v:=?q706v) (Or.inl ⟨by rfl, ?q706h⟩) hHeld ?q706r
  case q706h=>(intro _ h;clear h;go_simp;try with_reducible rfl)
  try simp only [z0, z1, z2, z3]
  refine tk 7 qRfLk9_6 (some 41) (v:=.int .i64 g.mode) (Or.inl ⟨by rfl, ?q707h⟩) hHeld ?q707r
  case q707h=>(intro wq hSw;have lq:=(hSw.2) 3 (.int .i64 g.mode) rfl;simp only [Nat.zero_add] at lq;clear hSw;go_simp;try with_reducible rfl)
  try simp only [z0, z1, z2, z3]
  refine tn 5 qRfLk9_7 (fun K hK=>?_)
  go_simp
  go_wp2_with (go_at_call 51;refine (HMo.out _ ((HS84.out).drew).old).mono ?_;rintro e w196 ⟨rfl, hb⟩)
  have HS196:=Lib.hid (((HS84.out).drew).calls hb)
  refine hK.out _ _ (⟨(fun j v hv=>by rw [Nat.zero_add];exact (HS196.out).at 0 rfl j hv), (fun j v hv=>by rw [Nat.zero_add];exact (HS196.out).at 1 rfl j hv)⟩) (fun hHeld=>?_)
  clear hK K hb
  try simp only [z0, z1, z2, z3]
  refine tk 8 qRfLk9_8 (some 42) (v:=.bool false) (Or.inl ⟨by rfl, ?q708h⟩) hHeld ?q708r
  case q708h=>(intro _ h;clear h;go_simp;try with_reducible rfl)
  try simp only [z0, z1, z2, z3]
  refine wpAnyH_done (by kernel_rfl) ?_ _
  clear hHeld HMo
  have b0 : w196.cell? ⟨w.heap.size, 0, none⟩ = some (.slice a t.held.length cap):=HS196.out.at 0 rfl 0 rfl
  have b1 : w196.cell? ⟨w.heap.size, 1, none⟩ = some (.slice a2 t.wait.length cap2):=HS196.out.at 0 rfl 1 rfl
  have hl0 : (0 : Int) ≤ (t.held.length : Int):=by omega
  have hl1 : (0 : Int) ≤ (t.wait.length : Int):=by omega
  have hsum : IntKind.i64.wrap ((t.held.length : Int) + (t.wait.length : Int)) = (t.held.length : Int) + (t.wait.length : Int):=IntWalk.i64_in _ (by have:=HLn.out;omega)
  by_cases hfl : t.held.length + t.wait.length = 1024
  ·have HE : Hid (rq = (tbNil, false, 21)):=Lib.hid (by rw [HD3.out, if_pos hfl])
   have e1 : ((t.held.length : Int) + (t.wait.length : Int) == 1024) = true:=by simp;omega
   clear hfl HD3
   go_upto_region 13 with (fail)
   clear b0 b1 hsum e1
   go_wp2_with (first | ((with_reducible refine wpList_build_v (d:=some 52) 25 (.agg (tbCells (.slice none 0 0) (.slice none 0 0)).toArray) ?_ ?_);(intro W;simp only [List.map_toArray, List.map_cons, List.map_nil];exact build_tb0 W);simp only [z0, z1, z2, z3]) | ((with_reducible refine wpList_store_ob 25 (.tmp 4) b4 (tbCells (.slice none 0 0) (.slice none 0 0)) (tbCells (.slice none 0 0) (.slice none 0 0)) 25 ?_ ?_ ?_ ?_ ?_ ?_ ?_);(exact rfl);(exact rfl);(exact (HS196.out).get 2 rfl);(exact info_tb);(exact rfl);(exact (oneCell_tb _ _ _ _ _ _));skip))
   have HS222 : Hid (Hp w [.ob (w.heap.size) 25 (tbCells (.slice a t.held.length cap) (.slice a2 t.wait.length cap2)), .ob b3 29 (grCells g), .ob b4 25 (tbCells (.slice none 0 0) (.slice none 0 0)), .rd R, .ob B84 29 (grCells wx)] (w196.setRow b4 (tbCells (.slice none 0 0) (.slice none 0 0)).toArray)):=(HS196.out).row 2 rfl (tbCells (.slice none 0 0) (.slice none 0 0))
   clear HS196
   generalize (w196.setRow b4 (tbCells (.slice none 0 0) (.slice none 0 0)).toArray) = w222 at *
   refine bodyPost_ret (results_ob_tmp2 Try.results28 _ _ b4 (tbCells (.slice none 0 0) (.slice none 0 0)) 25 _ rfl ((HS222.out).get 2 rfl) HUT.out rfl info_tb) rfl ?_
   exact TbPost3.none (by exact HE.out) (HS222.out).old
  have HE : Hid (rq = (settleR (addedR t g), decide (g.mode ≤ modeG (settleR (addedR t g)).held g), 0)):=Lib.hid (by rw [HD3.out, if_neg hfl])
  have e1 : ((t.held.length : Int) + (t.wait.length : Int) == 1024) = false:=by simp;omega
  clear hfl HD3
  have g0 : w196.cell? ⟨b3, 0, none⟩ = some (.int .i64 g.tx):=HS196.out.at 1 rfl 0 rfl
  have g1 : w196.cell? ⟨b3, 1, none⟩ = some (.int .i64 g.page):=HS196.out.at 1 rfl 1 rfl
  have g2 : w196.cell? ⟨b3, 2, none⟩ = some (.int .i64 g.slot):=HS196.out.at 1 rfl 2 rfl
  have g3 : w196.cell? ⟨b3, 3, none⟩ = some (.int .i64 g.mode):=HS196.out.at 1 rfl 3 rfl
  go_wp2_with fail
  clear hsum e1
  refine (HPl.out _ HS196.out.old).mono ?_
  rintro e w222 ⟨rfl, hb⟩
  have HQ222:=Lib.hid (HS196.out.calls hb)
  clear hb b0 b1 g0 g1 g2 g3 HPl HS196
  go_wp2_with fail
  have hpl:=place_le t.held t.wait g
  have HAe:=Lib.hid (added_eq t g)
  obtain ⟨p, hp⟩ : ∃ p, wplaceR t.held t.wait g = p:=⟨_, rfl⟩
  rw [hp] at hpl HAe
  simp only [hp]
  clear hp
  obtain ⟨l6, hl6⟩ : ∃ l6, t.wait.take p ++ ([g] ++ t.wait.drop p) = l6:=⟨_, rfl⟩
  have HL6:=Lib.hid hl6
  rw [hl6] at HAe
  obtain ⟨R5, ht5, hi5, hs5⟩:=gr_take HT.out.2 p hpl
  obtain ⟨R6, ht6, hi6, hs6⟩:=gr_drop HT.out.2 p hpl
  have HT5:=Lib.hid ht5
  have HI5:=Lib.hid hi5
  have HT6:=Lib.hid ht6
  have HI6:=Lib.hid hi6
  have hcw : (t.wait.length : Int) ≤ (cap2 : Int):=by omega
  have hpi : (p : Int) ≤ (t.wait.length : Int):=by omega
  have hpc : (p : Int) ≤ (cap2 : Int):=by omega
  have hp0 : (0 : Int) ≤ (p : Int):=by omega
  have HN0:=Lib.hid (HQ222.out.nil 29 4)
  clear ht5 hi5 hs5 ht6 hi6 hs6 hl6 HQ222
  go_cut [] (fun wz=>∃ (a6 : Option Addr) (c6 : Nat) (R7 : List Rng), GrRd (.slice a6 l6.length c6) l6 R7 ∧ (∀ r ∈ R7, w.heap.size ≤ r.1) ∧ Hp w [.ob (w.heap.size) 25 (tbCells (.slice a t.held.length cap) (.slice a6 l6.length c6)), .ob b3 29 (grCells g), .ob b4 25 (tbCells (.slice none 0 0) (.slice none 0 0)), .rd R, .ob B84 29 (grCells wx), .rd R7] wz)
  case first =>
   refine wp_region_held_drew (S:=fun w'=>w'.rangeAt b3 0 (grCells g)) (by kernel_rfl) ((fun j v hv=>by rw [Nat.zero_add];exact ((HN0.out).drew).at 1 rfl j hv)) (fun hHeld=>?_)
   refine tk 0 qRfLk9_9 (some 56) (v:=?q901v) (Or.inl ⟨by rfl, ?q901h⟩) hHeld ?q901r
   case q901h=>(intro _ h;clear h;go_simp;try with_reducible rfl)
   try simp only [z0, z1, z2, z3]
   refine tk 2 qRfLk9_10 (some 58) (v:=?q902v) (Or.inl ⟨by rfl, ?q902h⟩) hHeld ?q902r
   case q902h=>(intro _ h;clear h;go_simp;try with_reducible rfl)
   try simp only [z0, z1, z2, z3]
   refine tk 5 qRfLk9_11 (some 61) (yieldsIf_load_mid (by rfl) 29 (.tmp 3) rfl b3 (0) rfl (grCells g) _ (fun _ h=>h) HUG.out rfl (info_gr)) hHeld ?_
   try simp only [z0, z1, z2, z3]
   refine tk 8 qRfLk9_12 (some 64) (v:=?q904v) (Or.inl ⟨by rfl, ?q904h⟩) hHeld ?q904r
   case q904h=>(intro _ h;clear h;go_simp;try with_reducible rfl)
   try simp only [z0, z1, z2, z3]
   refine tk 10 qRfLk9_13 (some 66) (v:=?q905v) (Or.inl ⟨by rfl, ?q905h⟩) hHeld ?q905r
   case q905h=>(intro _ h;clear h;go_simp;try with_reducible rfl)
   try simp only [z0, z1, z2, z3]
   refine wpAnyH_ready (rs:=[1, 6, 9]) (by kernel_rfl) (by simp) ?_
   refine AllReadyH.cons (o:=qRfLk9_14) rfl (fun K hK=>?_) (AllReadyH.cons (o:=qRfLk9_15) rfl (fun K hK=>?_) (AllReadyH.cons (o:=qRfLk9_16) rfl (fun K hK=>?_) (AllReadyH.nil)))
   ·have q0:=((HN0.out).drew).at 0 rfl 1 rfl
    go_simp
    clear q0
    have HS243 : Hid (Hp w [.ob (w.heap.size) 25 (tbCells (.slice a t.held.length cap) (.slice a2 t.wait.length cap2)), .ob b3 29 (grCells g), .ob b4 25 (tbCells (.slice none 0 0) (.slice none 0 0)), .rd R, .ob B84 29 (grCells wx), .sl ((.slice none 0 0)) 29 4 (0) ([])] (w222.drew)):=(HN0.out).drew
    refine hK.out _ _ ((fun j v hv=>by rw [Nat.zero_add];exact (HS243.out).at 1 rfl j hv)) (fun hHeld=>?_)
    clear hK K
    generalize w222.drew = w243 at *
    try simp only [z0, z1, z2, z3]
    refine tk 3 qRfLk9_17 (some 59) (v:=.slice a2 p cap2) (Or.inl ⟨by rfl, ?q906h⟩) hHeld ?q906r
    case q906h=>(intro _ h;clear h;go_simp;try with_reducible rfl)
    try simp only [z0, z1, z2, z3]
    refine wpAnyH_ready (rs:=[4, 6, 9]) (by kernel_rfl) (by simp) ?_
    refine AllReadyH.cons (o:=qRfLk9_18) rfl (fun K hK=>?_) (AllReadyH.cons (o:=qRfLk9_15) rfl (fun K hK=>?_) (AllReadyH.cons (o:=qRfLk9_16) rfl (fun K hK=>?_) (AllReadyH.nil)))
    ·rw [if_pos (by rfl)]
     refine wp_append_sl (HS243.out) (.const (.slice none 0 0)) (.tmp 59) 23 rfl 5 (v:=.slice none 0 0) (n:=0) (xs:=[]) rfl (xv:=.slice a2 p cap2) (m:=(t.wait.take p).length) (ys:=grRow (t.wait.take p)) (R:=R5) HT5.out (HI5.out _ ((HS243.out).reads 3 rfl)) HUX.out elem_gr rfl rfl (one_grs _) (by have:=HLn.out;rw [List.length_take];omega) ?_
     intro v5 w244 hs
     have hs2 : Hp w [.ob (w.heap.size) 25 (tbCells (.slice a t.held.length cap) (.slice a2 t.wait.length cap2)), .ob b3 29 (grCells g), .ob b4 25 (tbCells (.slice none 0 0) (.slice none 0 0)), .rd R, .ob B84 29 (grCells wx), .sl v5 29 4 ((t.wait.take p).length) (grRow (t.wait.take p))] w244:=by
      have h9:=hs
      simp only [Nat.zero_add, List.nil_append] at h9
      exact h9
     clear hs
     have HS244:=Lib.hid hs2
     refine hK.out _ _ ((fun j v hv=>by rw [Nat.zero_add];exact (HS244.out).at 1 rfl j hv)) (fun hHeld=>?_)
     clear hK K hs2
     try simp only [z0, z1, z2, z3]
     refine wpAnyH_ready (rs:=[6, 9]) (by kernel_rfl) (by simp) ?_
     refine AllReadyH.cons (o:=qRfLk9_15) rfl (fun K hK=>?_) (AllReadyH.cons (o:=qRfLk9_16) rfl (fun K hK=>?_) (AllReadyH.nil))
     ·rw [if_pos (by rfl)]
      refine wp_build_obs rfl elem_gr HUX.out [grCells g] (List.forall_mem_cons.2 ⟨rfl, (fun _ h=>absurd h List.not_mem_nil)⟩) (Nat.succ_pos _) (by simp only [List.length_cons, List.length_nil];omega) rfl (by simp only [List.map_toArray, List.map_cons, List.map_nil, List.zipIdx_cons, List.zipIdx_nil];exact rfl) ?_
      have HS245 : Hid (Hp w [.ob (w.heap.size) 25 (tbCells (.slice a t.held.length cap) (.slice a2 t.wait.length cap2)), .ob b3 29 (grCells g), .ob b4 25 (tbCells (.slice none 0 0) (.slice none 0 0)), .rd R, .ob B84 29 (grCells wx), .sl v5 29 4 ((t.wait.take p).length) (grRow (t.wait.take p)), .ob (w244.heap.size) 29 (([grCells g] : List (List Value)).flatMap id)] (w244.alloc (.cells (([grCells g] : List (List Value)).flatMap id).toArray 29))):=(HS244.out).put 29 (([grCells g] : List (List Value)).flatMap id)
      refine hK.out _ _ ((fun j v hv=>by rw [Nat.zero_add];exact (HS245.out).at 1 rfl j hv)) (fun hHeld=>?_)
      clear hK K
      generalize (w244.alloc (.cells (([grCells g] : List (List Value)).flatMap id).toArray 29)) = w245 at *
      generalize w244.heap.size = B243 at *
      try simp only [z0, z1, z2, z3]
      refine wpAnyH_ready (rs:=[7, 9]) (by kernel_rfl) (by simp) ?_
      refine AllReadyH.cons (o:=qRfLk9_19) rfl (fun K hK=>?_) (AllReadyH.cons (o:=qRfLk9_16) rfl (fun K hK=>?_) (AllReadyH.nil))
      ·rw [if_pos (by rfl)]
       refine wp_append_hp (HS245.out) (.tmp 60) (.tmp 62) 23 rfl 5 rfl 6 rfl HUX.out elem_gr 1 1 rfl rfl rfl (by intro u hu;simp only [List.flatMap_cons, List.flatMap_nil, List.append_nil, id] at hu;exact one_gr _ u hu) (by have:=HLn.out;rw [List.length_take];omega) ?_
       intro v246 w246 hs hnil
       have HS247:=Lib.hid hs
       refine hK.out _ _ ((fun j v hv=>by rw [Nat.zero_add];exact (HS247.out).at 1 rfl j hv)) (fun hHeld=>?_)
       clear hK K hs
       try simp only [z0, z1, z2, z3]
       refine tn 9 qRfLk9_16 (fun K hK=>?_)
       have q0:=(HS247.out).at 0 rfl 1 rfl
       go_simp
       clear q0
       have HS248:=HS247
       refine hK.out _ _ ((fun j v hv=>by rw [Nat.zero_add];exact (HS248.out).at 1 rfl j hv)) (fun hHeld=>?_)
       clear hK K
       try simp only [z0, z1, z2, z3]
       refine tk 11 qRfLk9_20 (some 67) (v:=.slice (if cap2 = p then a2 else Option.map (fun x=>Addr.add x (p * 4)) a2) (t.wait.length - p) (cap2 - p)) (Or.inl ⟨by rfl, ?q907h⟩) hHeld ?q907r
       case q907h=>(intro _ h;clear h;go_simp;try with_reducible rfl)
       try simp only [z0, z1, z2, z3]
       refine tn 12 qRfLk9_21 (fun K hK=>?_)
       rw [if_pos (by rfl)]
       refine wp_append_sl (HS248.out) (.tmp 63) (.tmp 67) 23 rfl 5 (v:=v246) (n:=(t.wait.take p).length + 1) (xs:=(grRow (t.wait.take p)) ++ (([grCells g] : List (List Value)).flatMap id)) rfl (xv:=.slice (if cap2 = p then a2 else Option.map (fun x=>Addr.add x (p * 4)) a2) (t.wait.length - p) (cap2 - p)) (m:=(t.wait.drop p).length) (ys:=grRow (t.wait.drop p)) (R:=R6) HT6.out (HI6.out _ ((HS248.out).reads 3 rfl)) HUX.out elem_gr rfl rfl (one_grs _) (by have:=HLn.out;rw [List.length_take, List.length_drop];omega) ?_
       intro v6 w247 hs
       have hs2 : Hp w [.ob (w.heap.size) 25 (tbCells (.slice a t.held.length cap) (.slice a2 t.wait.length cap2)), .ob b3 29 (grCells g), .ob b4 25 (tbCells (.slice none 0 0) (.slice none 0 0)), .rd R, .ob B84 29 (grCells wx), .sl v6 29 4 (l6.length) (grRow l6), .ob B243 29 (([grCells g] : List (List Value)).flatMap id)] w247:=by
        rw [← HL6.out, grRow_append, grRow_append, grRow_one, List.length_append, List.length_append, ← List.append_assoc, ← Nat.add_assoc]
        exact hs
       clear hs
       have HS249:=Lib.hid hs2
       refine hK.out _ _ ((fun j v hv=>by rw [Nat.zero_add];exact (HS249.out).at 1 rfl j hv)) (fun hHeld=>?_)
       clear hK K hs2
       try simp only [z0, z1, z2, z3]
       refine tk 13 qRfLk9_22 (some 69) (v:=?q908v) (Or.inl ⟨by rfl, ?q908h⟩) hHeld ?q908r
       case q908h=>(intro _ h;clear h;go_simp;try with_reducible rfl)
       try simp only [z0, z1, z2, z3]
       refine tn 14 qRfLk9_23 (fun K hK=>?_)
       rw [if_pos (by rfl)]
       obtain ⟨a6, c6, rfl⟩:=own_slice ((HS249.out).own 5 rfl)
       have q5:=(HS249.out).at 0 rfl 1 rfl
       have f5:=(HS249.out).frozen 0 rfl 1
       go_simp
       clear q5 f5
       have HS250 : Hid (Hp w [.ob (w.heap.size) 25 (tbCells (.slice a t.held.length cap) (.slice a6 l6.length c6)), .ob b3 29 (grCells g), .ob b4 25 (tbCells (.slice none 0 0) (.slice none 0 0)), .rd R, .ob B84 29 (grCells wx), .sl ((.slice a6 l6.length c6)) 29 4 (l6.length) (grRow l6), .ob B243 29 (([grCells g] : List (List Value)).flatMap id)] (w247.setCell ⟨w.heap.size, 1, none⟩ (.slice a6 l6.length c6))):=(HS249.out).set 0 rfl 1 (.slice a6 l6.length c6)
       refine hK.out _ _ ((fun j v hv=>by rw [Nat.zero_add];exact (HS250.out).at 1 rfl j hv)) (fun hHeld=>?_)
       clear hK K
       generalize (w247.setCell ⟨w.heap.size, 1, none⟩ (.slice a6 l6.length c6)) = w248 at *
       try simp only [z0, z1, z2, z3]
       refine wpAnyH_done (by kernel_rfl) ?_ _
       clear hHeld
       generalize (if cap2 = p then a2 else Option.map (fun x=>Addr.add x (p * 4)) a2) = ap9 at *
       have HS251 : Hid (Hp w [.ob (w.heap.size) 25 (tbCells (.slice a t.held.length cap) (.slice a6 l6.length c6)), .ob b3 29 (grCells g), .ob b4 25 (tbCells (.slice none 0 0) (.slice none 0 0)), .rd R, .ob B84 29 (grCells wx), .sl ((.slice a6 l6.length c6)) 29 4 (l6.length) (grRow l6)] w248):=HS250.out.pull [0, 1, 2, 3, 4, 5] rfl (pull_nd HS250.out.nd [0, 1, 2, 3, 4, 5] rfl (by decide))
       clear HS250
       obtain ⟨R7, h7, hn7, hs7⟩:=Hp.ownrd2 (A:=[.ob (w.heap.size) 25 (tbCells (.slice a t.held.length cap) (.slice a6 l6.length c6)), .ob b3 29 (grCells g), .ob b4 25 (tbCells (.slice none 0 0) (.slice none 0 0)), .rd R, .ob B84 29 (grCells wx)]) HS251.out
       go_wp2_with fail
       go_meet
       exact ⟨a6, c6, R7, h7, hn7, hs7⟩
      ·have q0:=(HS245.out).at 0 rfl 1 rfl
       go_simp
       clear q0
       have HS246:=HS245
       refine hK.out _ _ ((fun j v hv=>by rw [Nat.zero_add];exact (HS246.out).at 1 rfl j hv)) (fun hHeld=>?_)
       clear hK K
       try simp only [z0, z1, z2, z3]
       refine tk 11 qRfLk9_20 (some 67) (v:=.slice (if cap2 = p then a2 else Option.map (fun x=>Addr.add x (p * 4)) a2) (t.wait.length - p) (cap2 - p)) (Or.inl ⟨by rfl, ?q909h⟩) hHeld ?q909r
       case q909h=>(intro _ h;clear h;go_simp;try with_reducible rfl)
       try simp only [z0, z1, z2, z3]
       refine tn 7 qRfLk9_19 (fun K hK=>?_)
       rw [if_pos (by rfl)]
       refine wp_append_hp (HS246.out) (.tmp 60) (.tmp 62) 23 rfl 5 rfl 6 rfl HUX.out elem_gr 1 1 rfl rfl rfl (by intro u hu;simp only [List.flatMap_cons, List.flatMap_nil, List.append_nil, id] at hu;exact one_gr _ u hu) (by have:=HLn.out;rw [List.length_take];omega) ?_
       intro v246 w246 hs hnil
       have HS248:=Lib.hid hs
       refine hK.out _ _ ((fun j v hv=>by rw [Nat.zero_add];exact (HS248.out).at 1 rfl j hv)) (fun hHeld=>?_)
       clear hK K hs
       try simp only [z0, z1, z2, z3]
       refine tn 12 qRfLk9_21 (fun K hK=>?_)
       rw [if_pos (by rfl)]
       refine wp_append_sl (HS248.out) (.tmp 63) (.tmp 67) 23 rfl 5 (v:=v246) (n:=(t.wait.take p).length + 1) (xs:=(grRow (t.wait.take p)) ++ (([grCells g] : List (List Value)).flatMap id)) rfl (xv:=.slice (if cap2 = p then a2 else Option.map (fun x=>Addr.add x (p * 4)) a2) (t.wait.length - p) (cap2 - p)) (m:=(t.wait.drop p).length) (ys:=grRow (t.wait.drop p)) (R:=R6) HT6.out (HI6.out _ ((HS248.out).reads 3 rfl)) HUX.out elem_gr rfl rfl (one_grs _) (by have:=HLn.out;rw [List.length_take, List.length_drop];omega) ?_
       intro v6 w247 hs
       have hs2 : Hp w [.ob (w.heap.size) 25 (tbCells (.slice a t.held.length cap) (.slice a2 t.wait.length cap2)), .ob b3 29 (grCells g), .ob b4 25 (tbCells (.slice none 0 0) (.slice none 0 0)), .rd R, .ob B84 29 (grCells wx), .sl v6 29 4 (l6.length) (grRow l6), .ob B243 29 (([grCells g] : List (List Value)).flatMap id)] w247:=by
        rw [← HL6.out, grRow_append, grRow_append, grRow_one, List.length_append, List.length_append, ← List.append_assoc, ← Nat.add_assoc]
        exact hs
       clear hs
       have HS249:=Lib.hid hs2
       refine hK.out _ _ ((fun j v hv=>by rw [Nat.zero_add];exact (HS249.out).at 1 rfl j hv)) (fun hHeld=>?_)
       clear hK K hs2
       try simp only [z0, z1, z2, z3]
       refine tk 13 qRfLk9_22 (some 69) (v:=?q910v) (Or.inl ⟨by rfl, ?q910h⟩) hHeld ?q910r
       case q910h=>(intro _ h;clear h;go_simp;try with_reducible rfl)
       try simp only [z0, z1, z2, z3]
       refine tn 14 qRfLk9_23 (fun K hK=>?_)
       rw [if_pos (by rfl)]
       obtain ⟨a6, c6, rfl⟩:=own_slice ((HS249.out).own 5 rfl)
       have q5:=(HS249.out).at 0 rfl 1 rfl
       have f5:=(HS249.out).frozen 0 rfl 1
       go_simp
       clear q5 f5
       have HS250 : Hid (Hp w [.ob (w.heap.size) 25 (tbCells (.slice a t.held.length cap) (.slice a6 l6.length c6)), .ob b3 29 (grCells g), .ob b4 25 (tbCells (.slice none 0 0) (.slice none 0 0)), .rd R, .ob B84 29 (grCells wx), .sl ((.slice a6 l6.length c6)) 29 4 (l6.length) (grRow l6), .ob B243 29 (([grCells g] : List (List Value)).flatMap id)] (w247.setCell ⟨w.heap.size, 1, none⟩ (.slice a6 l6.length c6))):=(HS249.out).set 0 rfl 1 (.slice a6 l6.length c6)
       refine hK.out _ _ ((fun j v hv=>by rw [Nat.zero_add];exact (HS250.out).at 1 rfl j hv)) (fun hHeld=>?_)
       clear hK K
       generalize (w247.setCell ⟨w.heap.size, 1, none⟩ (.slice a6 l6.length c6)) = w248 at *
       try simp only [z0, z1, z2, z3]
       refine wpAnyH_done (by kernel_rfl) ?_ _
       clear hHeld
       generalize (if cap2 = p then a2 else Option.map (fun x=>Addr.add x (p * 4)) a2) = ap9 at *
       have HS251 : Hid (Hp w [.ob (w.heap.size) 25 (tbCells (.slice a t.held.length cap) (.slice a6 l6.length c6)), .ob b3 29 (grCells g), .ob b4 25 (tbCells (.slice none 0 0) (.slice none 0 0)), .rd R, .ob B84 29 (grCells wx), .sl ((.slice a6 l6.length c6)) 29 4 (l6.length) (grRow l6)] w248):=HS250.out.pull [0, 1, 2, 3, 4, 5] rfl (pull_nd HS250.out.nd [0, 1, 2, 3, 4, 5] rfl (by decide))
       clear HS250
       obtain ⟨R7, h7, hn7, hs7⟩:=Hp.ownrd2 (A:=[.ob (w.heap.size) 25 (tbCells (.slice a t.held.length cap) (.slice a6 l6.length c6)), .ob b3 29 (grCells g), .ob b4 25 (tbCells (.slice none 0 0) (.slice none 0 0)), .rd R, .ob B84 29 (grCells wx)]) HS251.out
       go_wp2_with fail
       go_meet
       exact ⟨a6, c6, R7, h7, hn7, hs7⟩
     ·have q0:=(HS244.out).at 0 rfl 1 rfl
      go_simp
      clear q0
      have HS245:=HS244
      refine hK.out _ _ ((fun j v hv=>by rw [Nat.zero_add];exact (HS245.out).at 1 rfl j hv)) (fun hHeld=>?_)
      clear hK K
      try simp only [z0, z1, z2, z3]
      refine tk 11 qRfLk9_20 (some 67) (v:=.slice (if cap2 = p then a2 else Option.map (fun x=>Addr.add x (p * 4)) a2) (t.wait.length - p) (cap2 - p)) (Or.inl ⟨by rfl, ?q911h⟩) hHeld ?q911r
      case q911h=>(intro _ h;clear h;go_simp;try with_reducible rfl)
      try simp only [z0, z1, z2, z3]
      refine tn 6 qRfLk9_15 (fun K hK=>?_)
      rw [if_pos (by rfl)]
      refine wp_build_obs rfl elem_gr HUX.out [grCells g] (List.forall_mem_cons.2 ⟨rfl, (fun _ h=>absurd h List.not_mem_nil)⟩) (Nat.succ_pos _) (by simp only [List.length_cons, List.length_nil];omega) rfl (by simp only [List.map_toArray, List.map_cons, List.map_nil, List.zipIdx_cons, List.zipIdx_nil];exact rfl) ?_
      have HS246 : Hid (Hp w [.ob (w.heap.size) 25 (tbCells (.slice a t.held.length cap) (.slice a2 t.wait.length cap2)), .ob b3 29 (grCells g), .ob b4 25 (tbCells (.slice none 0 0) (.slice none 0 0)), .rd R, .ob B84 29 (grCells wx), .sl v5 29 4 ((t.wait.take p).length) (grRow (t.wait.take p)), .ob (w244.heap.size) 29 (([grCells g] : List (List Value)).flatMap id)] (w244.alloc (.cells (([grCells g] : List (List Value)).flatMap id).toArray 29))):=(HS245.out).put 29 (([grCells g] : List (List Value)).flatMap id)
      refine hK.out _ _ ((fun j v hv=>by rw [Nat.zero_add];exact (HS246.out).at 1 rfl j hv)) (fun hHeld=>?_)
      clear hK K
      generalize (w244.alloc (.cells (([grCells g] : List (List Value)).flatMap id).toArray 29)) = w245 at *
      generalize w244.heap.size = B243 at *
      try simp only [z0, z1, z2, z3]
      refine tn 7 qRfLk9_19 (fun K hK=>?_)
      rw [if_pos (by rfl)]
      refine wp_append_hp (HS246.out) (.tmp 60) (.tmp 62) 23 rfl 5 rfl 6 rfl HUX.out elem_gr 1 1 rfl rfl rfl (by intro u hu;simp only [List.flatMap_cons, List.flatMap_nil, List.append_nil, id] at hu;exact one_gr _ u hu) (by have:=HLn.out;rw [List.length_take];omega) ?_
      intro v246 w246 hs hnil
      have HS248:=Lib.hid hs
      refine hK.out _ _ ((fun j v hv=>by rw [Nat.zero_add];exact (HS248.out).at 1 rfl j hv)) (fun hHeld=>?_)
      clear hK K hs
      try simp only [z0, z1, z2, z3]
      refine tn 12 qRfLk9_21 (fun K hK=>?_)
      rw [if_pos (by rfl)]
      refine wp_append_sl (HS248.out) (.tmp 63) (.tmp 67) 23 rfl 5 (v:=v246) (n:=(t.wait.take p).length + 1) (xs:=(grRow (t.wait.take p)) ++ (([grCells g] : List (List Value)).flatMap id)) rfl (xv:=.slice (if cap2 = p then a2 else Option.map (fun x=>Addr.add x (p * 4)) a2) (t.wait.length - p) (cap2 - p)) (m:=(t.wait.drop p).length) (ys:=grRow (t.wait.drop p)) (R:=R6) HT6.out (HI6.out _ ((HS248.out).reads 3 rfl)) HUX.out elem_gr rfl rfl (one_grs _) (by have:=HLn.out;rw [List.length_take, List.length_drop];omega) ?_
      intro v6 w247 hs
      have hs2 : Hp w [.ob (w.heap.size) 25 (tbCells (.slice a t.held.length cap) (.slice a2 t.wait.length cap2)), .ob b3 29 (grCells g), .ob b4 25 (tbCells (.slice none 0 0) (.slice none 0 0)), .rd R, .ob B84 29 (grCells wx), .sl v6 29 4 (l6.length) (grRow l6), .ob B243 29 (([grCells g] : List (List Value)).flatMap id)] w247:=by
       rw [← HL6.out, grRow_append, grRow_append, grRow_one, List.length_append, List.length_append, ← List.append_assoc, ← Nat.add_assoc]
       exact hs
      clear hs
      have HS249:=Lib.hid hs2
      refine hK.out _ _ ((fun j v hv=>by rw [Nat.zero_add];exact (HS249.out).at 1 rfl j hv)) (fun hHeld=>?_)
      clear hK K hs2
      try simp only [z0, z1, z2, z3]
      refine tk 13 qRfLk9_22 (some 69) (v:=?q912v) (Or.inl ⟨by rfl, ?q912h⟩) hHeld ?q912r
      case q912h=>(intro _ h;clear h;go_simp;try with_reducible rfl)
      try simp only [z0, z1, z2, z3]
      refine tn 14 qRfLk9_23 (fun K hK=>?_)
      rw [if_pos (by rfl)]
      obtain ⟨a6, c6, rfl⟩:=own_slice ((HS249.out).own 5 rfl)
      have q5:=(HS249.out).at 0 rfl 1 rfl
      have f5:=(HS249.out).frozen 0 rfl 1
      go_simp
      clear q5 f5
      have HS250 : Hid (Hp w [.ob (w.heap.size) 25 (tbCells (.slice a t.held.length cap) (.slice a6 l6.length c6)), .ob b3 29 (grCells g), .ob b4 25 (tbCells (.slice none 0 0) (.slice none 0 0)), .rd R, .ob B84 29 (grCells wx), .sl ((.slice a6 l6.length c6)) 29 4 (l6.length) (grRow l6), .ob B243 29 (([grCells g] : List (List Value)).flatMap id)] (w247.setCell ⟨w.heap.size, 1, none⟩ (.slice a6 l6.length c6))):=(HS249.out).set 0 rfl 1 (.slice a6 l6.length c6)
      refine hK.out _ _ ((fun j v hv=>by rw [Nat.zero_add];exact (HS250.out).at 1 rfl j hv)) (fun hHeld=>?_)
      clear hK K
      generalize (w247.setCell ⟨w.heap.size, 1, none⟩ (.slice a6 l6.length c6)) = w248 at *
      try simp only [z0, z1, z2, z3]
      refine wpAnyH_done (by kernel_rfl) ?_ _
      clear hHeld
      generalize (if cap2 = p then a2 else Option.map (fun x=>Addr.add x (p * 4)) a2) = ap9 at *
      have HS251 : Hid (Hp w [.ob (w.heap.size) 25 (tbCells (.slice a t.held.length cap) (.slice a6 l6.length c6)), .ob b3 29 (grCells g), .ob b4 25 (tbCells (.slice none 0 0) (.slice none 0 0)), .rd R, .ob B84 29 (grCells wx), .sl ((.slice a6 l6.length c6)) 29 4 (l6.length) (grRow l6)] w248):=HS250.out.pull [0, 1, 2, 3, 4, 5] rfl (pull_nd HS250.out.nd [0, 1, 2, 3, 4, 5] rfl (by decide))
      clear HS250
      obtain ⟨R7, h7, hn7, hs7⟩:=Hp.ownrd2 (A:=[.ob (w.heap.size) 25 (tbCells (.slice a t.held.length cap) (.slice a6 l6.length c6)), .ob b3 29 (grCells g), .ob b4 25 (tbCells (.slice none 0 0) (.slice none 0 0)), .rd R, .ob B84 29 (grCells wx)]) HS251.out
      go_wp2_with fail
      go_meet
      exact ⟨a6, c6, R7, h7, hn7, hs7⟩
    ·rw [if_pos (by rfl)]
     refine wp_build_obs rfl elem_gr HUX.out [grCells g] (List.forall_mem_cons.2 ⟨rfl, (fun _ h=>absurd h List.not_mem_nil)⟩) (Nat.succ_pos _) (by simp only [List.length_cons, List.length_nil];omega) rfl (by simp only [List.map_toArray, List.map_cons, List.map_nil, List.zipIdx_cons, List.zipIdx_nil];exact rfl) ?_
     have HS244 : Hid (Hp w [.ob (w.heap.size) 25 (tbCells (.slice a t.held.length cap) (.slice a2 t.wait.length cap2)), .ob b3 29 (grCells g), .ob b4 25 (tbCells (.slice none 0 0) (.slice none 0 0)), .rd R, .ob B84 29 (grCells wx), .sl ((.slice none 0 0)) 29 4 (0) ([]), .ob (w243.heap.size) 29 (([grCells g] : List (List Value)).flatMap id)] (w243.alloc (.cells (([grCells g] : List (List Value)).flatMap id).toArray 29))):=(HS243.out).put 29 (([grCells g] : List (List Value)).flatMap id)
     refine hK.out _ _ ((fun j v hv=>by rw [Nat.zero_add];exact (HS244.out).at 1 rfl j hv)) (fun hHeld=>?_)
     clear hK K
     generalize (w243.alloc (.cells (([grCells g] : List (List Value)).flatMap id).toArray 29)) = w244 at *
     generalize w243.heap.size = B243 at *
     try simp only [z0, z1, z2, z3]
     refine wpAnyH_ready (rs:=[4, 9]) (by kernel_rfl) (by simp) ?_
     refine AllReadyH.cons (o:=qRfLk9_18) rfl (fun K hK=>?_) (AllReadyH.cons (o:=qRfLk9_16) rfl (fun K hK=>?_) (AllReadyH.nil))
     ·rw [if_pos (by rfl)]
      refine wp_append_sl (HS244.out) (.const (.slice none 0 0)) (.tmp 59) 23 rfl 5 (v:=.slice none 0 0) (n:=0) (xs:=[]) rfl (xv:=.slice a2 p cap2) (m:=(t.wait.take p).length) (ys:=grRow (t.wait.take p)) (R:=R5) HT5.out (HI5.out _ ((HS244.out).reads 3 rfl)) HUX.out elem_gr rfl rfl (one_grs _) (by have:=HLn.out;rw [List.length_take];omega) ?_
      intro v5 w245 hs
      have hs2 : Hp w [.ob (w.heap.size) 25 (tbCells (.slice a t.held.length cap) (.slice a2 t.wait.length cap2)), .ob b3 29 (grCells g), .ob b4 25 (tbCells (.slice none 0 0) (.slice none 0 0)), .rd R, .ob B84 29 (grCells wx), .sl v5 29 4 ((t.wait.take p).length) (grRow (t.wait.take p)), .ob B243 29 (([grCells g] : List (List Value)).flatMap id)] w245:=by
       have h9:=hs
       simp only [Nat.zero_add, List.nil_append] at h9
       exact h9
      clear hs
      have HS245:=Lib.hid hs2
      refine hK.out _ _ ((fun j v hv=>by rw [Nat.zero_add];exact (HS245.out).at 1 rfl j hv)) (fun hHeld=>?_)
      clear hK K hs2
      try simp only [z0, z1, z2, z3]
      refine wpAnyH_ready (rs:=[7, 9]) (by kernel_rfl) (by simp) ?_
      refine AllReadyH.cons (o:=qRfLk9_19) rfl (fun K hK=>?_) (AllReadyH.cons (o:=qRfLk9_16) rfl (fun K hK=>?_) (AllReadyH.nil))
      ·rw [if_pos (by rfl)]
       refine wp_append_hp (HS245.out) (.tmp 60) (.tmp 62) 23 rfl 5 rfl 6 rfl HUX.out elem_gr 1 1 rfl rfl rfl (by intro u hu;simp only [List.flatMap_cons, List.flatMap_nil, List.append_nil, id] at hu;exact one_gr _ u hu) (by have:=HLn.out;rw [List.length_take];omega) ?_
       intro v246 w246 hs hnil
       have HS247:=Lib.hid hs
       refine hK.out _ _ ((fun j v hv=>by rw [Nat.zero_add];exact (HS247.out).at 1 rfl j hv)) (fun hHeld=>?_)
       clear hK K hs
       try simp only [z0, z1, z2, z3]
       refine tn 9 qRfLk9_16 (fun K hK=>?_)
       have q0:=(HS247.out).at 0 rfl 1 rfl
       go_simp
       clear q0
       have HS248:=HS247
       refine hK.out _ _ ((fun j v hv=>by rw [Nat.zero_add];exact (HS248.out).at 1 rfl j hv)) (fun hHeld=>?_)
       clear hK K
       try simp only [z0, z1, z2, z3]
       refine tk 11 qRfLk9_20 (some 67) (v:=.slice (if cap2 = p then a2 else Option.map (fun x=>Addr.add x (p * 4)) a2) (t.wait.length - p) (cap2 - p)) (Or.inl ⟨by rfl, ?q913h⟩) hHeld ?q913r
       case q913h=>(intro _ h;clear h;go_simp;try with_reducible rfl)
       try simp only [z0, z1, z2, z3]
       refine tn 12 qRfLk9_21 (fun K hK=>?_)
       rw [if_pos (by rfl)]
       refine wp_append_sl (HS248.out) (.tmp 63) (.tmp 67) 23 rfl 5 (v:=v246) (n:=(t.wait.take p).length + 1) (xs:=(grRow (t.wait.take p)) ++ (([grCells g] : List (List Value)).flatMap id)) rfl (xv:=.slice (if cap2 = p then a2 else Option.map (fun x=>Addr.add x (p * 4)) a2) (t.wait.length - p) (cap2 - p)) (m:=(t.wait.drop p).length) (ys:=grRow (t.wait.drop p)) (R:=R6) HT6.out (HI6.out _ ((HS248.out).reads 3 rfl)) HUX.out elem_gr rfl rfl (one_grs _) (by have:=HLn.out;rw [List.length_take, List.length_drop];omega) ?_
       intro v6 w247 hs
       have hs2 : Hp w [.ob (w.heap.size) 25 (tbCells (.slice a t.held.length cap) (.slice a2 t.wait.length cap2)), .ob b3 29 (grCells g), .ob b4 25 (tbCells (.slice none 0 0) (.slice none 0 0)), .rd R, .ob B84 29 (grCells wx), .sl v6 29 4 (l6.length) (grRow l6), .ob B243 29 (([grCells g] : List (List Value)).flatMap id)] w247:=by
        rw [← HL6.out, grRow_append, grRow_append, grRow_one, List.length_append, List.length_append, ← List.append_assoc, ← Nat.add_assoc]
        exact hs
       clear hs
       have HS249:=Lib.hid hs2
       refine hK.out _ _ ((fun j v hv=>by rw [Nat.zero_add];exact (HS249.out).at 1 rfl j hv)) (fun hHeld=>?_)
       clear hK K hs2
       try simp only [z0, z1, z2, z3]
       refine tk 13 qRfLk9_22 (some 69) (v:=?q914v) (Or.inl ⟨by rfl, ?q914h⟩) hHeld ?q914r
       case q914h=>(intro _ h;clear h;go_simp;try with_reducible rfl)
       try simp only [z0, z1, z2, z3]
       refine tn 14 qRfLk9_23 (fun K hK=>?_)
       rw [if_pos (by rfl)]
       obtain ⟨a6, c6, rfl⟩:=own_slice ((HS249.out).own 5 rfl)
       have q5:=(HS249.out).at 0 rfl 1 rfl
       have f5:=(HS249.out).frozen 0 rfl 1
       go_simp
       clear q5 f5
       have HS250 : Hid (Hp w [.ob (w.heap.size) 25 (tbCells (.slice a t.held.length cap) (.slice a6 l6.length c6)), .ob b3 29 (grCells g), .ob b4 25 (tbCells (.slice none 0 0) (.slice none 0 0)), .rd R, .ob B84 29 (grCells wx), .sl ((.slice a6 l6.length c6)) 29 4 (l6.length) (grRow l6), .ob B243 29 (([grCells g] : List (List Value)).flatMap id)] (w247.setCell ⟨w.heap.size, 1, none⟩ (.slice a6 l6.length c6))):=(HS249.out).set 0 rfl 1 (.slice a6 l6.length c6)
       refine hK.out _ _ ((fun j v hv=>by rw [Nat.zero_add];exact (HS250.out).at 1 rfl j hv)) (fun hHeld=>?_)
       clear hK K
       generalize (w247.setCell ⟨w.heap.size, 1, none⟩ (.slice a6 l6.length c6)) = w248 at *
       try simp only [z0, z1, z2, z3]
       refine wpAnyH_done (by kernel_rfl) ?_ _
       clear hHeld
       generalize (if cap2 = p then a2 else Option.map (fun x=>Addr.add x (p * 4)) a2) = ap9 at *
       have HS251 : Hid (Hp w [.ob (w.heap.size) 25 (tbCells (.slice a t.held.length cap) (.slice a6 l6.length c6)), .ob b3 29 (grCells g), .ob b4 25 (tbCells (.slice none 0 0) (.slice none 0 0)), .rd R, .ob B84 29 (grCells wx), .sl ((.slice a6 l6.length c6)) 29 4 (l6.length) (grRow l6)] w248):=HS250.out.pull [0, 1, 2, 3, 4, 5] rfl (pull_nd HS250.out.nd [0, 1, 2, 3, 4, 5] rfl (by decide))
       clear HS250
       obtain ⟨R7, h7, hn7, hs7⟩:=Hp.ownrd2 (A:=[.ob (w.heap.size) 25 (tbCells (.slice a t.held.length cap) (.slice a6 l6.length c6)), .ob b3 29 (grCells g), .ob b4 25 (tbCells (.slice none 0 0) (.slice none 0 0)), .rd R, .ob B84 29 (grCells wx)]) HS251.out
       go_wp2_with fail
       go_meet
       exact ⟨a6, c6, R7, h7, hn7, hs7⟩
      ·have q0:=(HS245.out).at 0 rfl 1 rfl
       go_simp
       clear q0
       have HS246:=HS245
       refine hK.out _ _ ((fun j v hv=>by rw [Nat.zero_add];exact (HS246.out).at 1 rfl j hv)) (fun hHeld=>?_)
       clear hK K
       try simp only [z0, z1, z2, z3]
       refine tk 11 qRfLk9_20 (some 67) (v:=.slice (if cap2 = p then a2 else Option.map (fun x=>Addr.add x (p * 4)) a2) (t.wait.length - p) (cap2 - p)) (Or.inl ⟨by rfl, ?q915h⟩) hHeld ?q915r
       case q915h=>(intro _ h;clear h;go_simp;try with_reducible rfl)
       try simp only [z0, z1, z2, z3]
       refine tn 7 qRfLk9_19 (fun K hK=>?_)
       rw [if_pos (by rfl)]
       refine wp_append_hp (HS246.out) (.tmp 60) (.tmp 62) 23 rfl 5 rfl 6 rfl HUX.out elem_gr 1 1 rfl rfl rfl (by intro u hu;simp only [List.flatMap_cons, List.flatMap_nil, List.append_nil, id] at hu;exact one_gr _ u hu) (by have:=HLn.out;rw [List.length_take];omega) ?_
       intro v246 w246 hs hnil
       have HS248:=Lib.hid hs
       refine hK.out _ _ ((fun j v hv=>by rw [Nat.zero_add];exact (HS248.out).at 1 rfl j hv)) (fun hHeld=>?_)
       clear hK K hs
       try simp only [z0, z1, z2, z3]
       refine tn 12 qRfLk9_21 (fun K hK=>?_)
       rw [if_pos (by rfl)]
       refine wp_append_sl (HS248.out) (.tmp 63) (.tmp 67) 23 rfl 5 (v:=v246) (n:=(t.wait.take p).length + 1) (xs:=(grRow (t.wait.take p)) ++ (([grCells g] : List (List Value)).flatMap id)) rfl (xv:=.slice (if cap2 = p then a2 else Option.map (fun x=>Addr.add x (p * 4)) a2) (t.wait.length - p) (cap2 - p)) (m:=(t.wait.drop p).length) (ys:=grRow (t.wait.drop p)) (R:=R6) HT6.out (HI6.out _ ((HS248.out).reads 3 rfl)) HUX.out elem_gr rfl rfl (one_grs _) (by have:=HLn.out;rw [List.length_take, List.length_drop];omega) ?_
       intro v6 w247 hs
       have hs2 : Hp w [.ob (w.heap.size) 25 (tbCells (.slice a t.held.length cap) (.slice a2 t.wait.length cap2)), .ob b3 29 (grCells g), .ob b4 25 (tbCells (.slice none 0 0) (.slice none 0 0)), .rd R, .ob B84 29 (grCells wx), .sl v6 29 4 (l6.length) (grRow l6), .ob B243 29 (([grCells g] : List (List Value)).flatMap id)] w247:=by
        rw [← HL6.out, grRow_append, grRow_append, grRow_one, List.length_append, List.length_append, ← List.append_assoc, ← Nat.add_assoc]
        exact hs
       clear hs
       have HS249:=Lib.hid hs2
       refine hK.out _ _ ((fun j v hv=>by rw [Nat.zero_add];exact (HS249.out).at 1 rfl j hv)) (fun hHeld=>?_)
       clear hK K hs2
       try simp only [z0, z1, z2, z3]
       refine tk 13 qRfLk9_22 (some 69) (v:=?q916v) (Or.inl ⟨by rfl, ?q916h⟩) hHeld ?q916r
       case q916h=>(intro _ h;clear h;go_simp;try with_reducible rfl)
       try simp only [z0, z1, z2, z3]
       refine tn 14 qRfLk9_23 (fun K hK=>?_)
       rw [if_pos (by rfl)]
       obtain ⟨a6, c6, rfl⟩:=own_slice ((HS249.out).own 5 rfl)
       have q5:=(HS249.out).at 0 rfl 1 rfl
       have f5:=(HS249.out).frozen 0 rfl 1
       go_simp
       clear q5 f5
       have HS250 : Hid (Hp w [.ob (w.heap.size) 25 (tbCells (.slice a t.held.length cap) (.slice a6 l6.length c6)), .ob b3 29 (grCells g), .ob b4 25 (tbCells (.slice none 0 0) (.slice none 0 0)), .rd R, .ob B84 29 (grCells wx), .sl ((.slice a6 l6.length c6)) 29 4 (l6.length) (grRow l6), .ob B243 29 (([grCells g] : List (List Value)).flatMap id)] (w247.setCell ⟨w.heap.size, 1, none⟩ (.slice a6 l6.length c6))):=(HS249.out).set 0 rfl 1 (.slice a6 l6.length c6)
       refine hK.out _ _ ((fun j v hv=>by rw [Nat.zero_add];exact (HS250.out).at 1 rfl j hv)) (fun hHeld=>?_)
       clear hK K
       generalize (w247.setCell ⟨w.heap.size, 1, none⟩ (.slice a6 l6.length c6)) = w248 at *
       try simp only [z0, z1, z2, z3]
       refine wpAnyH_done (by kernel_rfl) ?_ _
       clear hHeld
       generalize (if cap2 = p then a2 else Option.map (fun x=>Addr.add x (p * 4)) a2) = ap9 at *
       have HS251 : Hid (Hp w [.ob (w.heap.size) 25 (tbCells (.slice a t.held.length cap) (.slice a6 l6.length c6)), .ob b3 29 (grCells g), .ob b4 25 (tbCells (.slice none 0 0) (.slice none 0 0)), .rd R, .ob B84 29 (grCells wx), .sl ((.slice a6 l6.length c6)) 29 4 (l6.length) (grRow l6)] w248):=HS250.out.pull [0, 1, 2, 3, 4, 5] rfl (pull_nd HS250.out.nd [0, 1, 2, 3, 4, 5] rfl (by decide))
       clear HS250
       obtain ⟨R7, h7, hn7, hs7⟩:=Hp.ownrd2 (A:=[.ob (w.heap.size) 25 (tbCells (.slice a t.held.length cap) (.slice a6 l6.length c6)), .ob b3 29 (grCells g), .ob b4 25 (tbCells (.slice none 0 0) (.slice none 0 0)), .rd R, .ob B84 29 (grCells wx)]) HS251.out
       go_wp2_with fail
       go_meet
       exact ⟨a6, c6, R7, h7, hn7, hs7⟩
     ·have q0:=(HS244.out).at 0 rfl 1 rfl
      go_simp
      clear q0
      have HS245:=HS244
      refine hK.out _ _ ((fun j v hv=>by rw [Nat.zero_add];exact (HS245.out).at 1 rfl j hv)) (fun hHeld=>?_)
      clear hK K
      try simp only [z0, z1, z2, z3]
      refine tk 11 qRfLk9_20 (some 67) (v:=.slice (if cap2 = p then a2 else Option.map (fun x=>Addr.add x (p * 4)) a2) (t.wait.length - p) (cap2 - p)) (Or.inl ⟨by rfl, ?q917h⟩) hHeld ?q917r
      case q917h=>(intro _ h;clear h;go_simp;try with_reducible rfl)
      try simp only [z0, z1, z2, z3]
      refine tn 4 qRfLk9_18 (fun K hK=>?_)
      rw [if_pos (by rfl)]
      refine wp_append_sl (HS245.out) (.const (.slice none 0 0)) (.tmp 59) 23 rfl 5 (v:=.slice none 0 0) (n:=0) (xs:=[]) rfl (xv:=.slice a2 p cap2) (m:=(t.wait.take p).length) (ys:=grRow (t.wait.take p)) (R:=R5) HT5.out (HI5.out _ ((HS245.out).reads 3 rfl)) HUX.out elem_gr rfl rfl (one_grs _) (by have:=HLn.out;rw [List.length_take];omega) ?_
      intro v5 w245 hs
      have hs2 : Hp w [.ob (w.heap.size) 25 (tbCells (.slice a t.held.length cap) (.slice a2 t.wait.length cap2)), .ob b3 29 (grCells g), .ob b4 25 (tbCells (.slice none 0 0) (.slice none 0 0)), .rd R, .ob B84 29 (grCells wx), .sl v5 29 4 ((t.wait.take p).length) (grRow (t.wait.take p)), .ob B243 29 (([grCells g] : List (List Value)).flatMap id)] w245:=by
       have h9:=hs
       simp only [Nat.zero_add, List.nil_append] at h9
       exact h9
      clear hs
      have HS246:=Lib.hid hs2
      refine hK.out _ _ ((fun j v hv=>by rw [Nat.zero_add];exact (HS246.out).at 1 rfl j hv)) (fun hHeld=>?_)
      clear hK K hs2
      try simp only [z0, z1, z2, z3]
      refine tn 7 qRfLk9_19 (fun K hK=>?_)
      rw [if_pos (by rfl)]
      refine wp_append_hp (HS246.out) (.tmp 60) (.tmp 62) 23 rfl 5 rfl 6 rfl HUX.out elem_gr 1 1 rfl rfl rfl (by intro u hu;simp only [List.flatMap_cons, List.flatMap_nil, List.append_nil, id] at hu;exact one_gr _ u hu) (by have:=HLn.out;rw [List.length_take];omega) ?_
      intro v246 w246 hs hnil
      have HS248:=Lib.hid hs
      refine hK.out _ _ ((fun j v hv=>by rw [Nat.zero_add];exact (HS248.out).at 1 rfl j hv)) (fun hHeld=>?_)
      clear hK K hs
      try simp only [z0, z1, z2, z3]
      refine tn 12 qRfLk9_21 (fun K hK=>?_)
      rw [if_pos (by rfl)]
      refine wp_append_sl (HS248.out) (.tmp 63) (.tmp 67) 23 rfl 5 (v:=v246) (n:=(t.wait.take p).length + 1) (xs:=(grRow (t.wait.take p)) ++ (([grCells g] : List (List Value)).flatMap id)) rfl (xv:=.slice (if cap2 = p then a2 else Option.map (fun x=>Addr.add x (p * 4)) a2) (t.wait.length - p) (cap2 - p)) (m:=(t.wait.drop p).length) (ys:=grRow (t.wait.drop p)) (R:=R6) HT6.out (HI6.out _ ((HS248.out).reads 3 rfl)) HUX.out elem_gr rfl rfl (one_grs _) (by have:=HLn.out;rw [List.length_take, List.length_drop];omega) ?_
      intro v6 w247 hs
      have hs2 : Hp w [.ob (w.heap.size) 25 (tbCells (.slice a t.held.length cap) (.slice a2 t.wait.length cap2)), .ob b3 29 (grCells g), .ob b4 25 (tbCells (.slice none 0 0) (.slice none 0 0)), .rd R, .ob B84 29 (grCells wx), .sl v6 29 4 (l6.length) (grRow l6), .ob B243 29 (([grCells g] : List (List Value)).flatMap id)] w247:=by
       rw [← HL6.out, grRow_append, grRow_append, grRow_one, List.length_append, List.length_append, ← List.append_assoc, ← Nat.add_assoc]
       exact hs
      clear hs
      have HS249:=Lib.hid hs2
      refine hK.out _ _ ((fun j v hv=>by rw [Nat.zero_add];exact (HS249.out).at 1 rfl j hv)) (fun hHeld=>?_)
      clear hK K hs2
      try simp only [z0, z1, z2, z3]
      refine tk 13 qRfLk9_22 (some 69) (v:=?q918v) (Or.inl ⟨by rfl, ?q918h⟩) hHeld ?q918r
      case q918h=>(intro _ h;clear h;go_simp;try with_reducible rfl)
      try simp only [z0, z1, z2, z3]
      refine tn 14 qRfLk9_23 (fun K hK=>?_)
      rw [if_pos (by rfl)]
      obtain ⟨a6, c6, rfl⟩:=own_slice ((HS249.out).own 5 rfl)
      have q5:=(HS249.out).at 0 rfl 1 rfl
      have f5:=(HS249.out).frozen 0 rfl 1
      go_simp
      clear q5 f5
      have HS250 : Hid (Hp w [.ob (w.heap.size) 25 (tbCells (.slice a t.held.length cap) (.slice a6 l6.length c6)), .ob b3 29 (grCells g), .ob b4 25 (tbCells (.slice none 0 0) (.slice none 0 0)), .rd R, .ob B84 29 (grCells wx), .sl ((.slice a6 l6.length c6)) 29 4 (l6.length) (grRow l6), .ob B243 29 (([grCells g] : List (List Value)).flatMap id)] (w247.setCell ⟨w.heap.size, 1, none⟩ (.slice a6 l6.length c6))):=(HS249.out).set 0 rfl 1 (.slice a6 l6.length c6)
      refine hK.out _ _ ((fun j v hv=>by rw [Nat.zero_add];exact (HS250.out).at 1 rfl j hv)) (fun hHeld=>?_)
      clear hK K
      generalize (w247.setCell ⟨w.heap.size, 1, none⟩ (.slice a6 l6.length c6)) = w248 at *
      try simp only [z0, z1, z2, z3]
      refine wpAnyH_done (by kernel_rfl) ?_ _
      clear hHeld
      generalize (if cap2 = p then a2 else Option.map (fun x=>Addr.add x (p * 4)) a2) = ap9 at *
      have HS251 : Hid (Hp w [.ob (w.heap.size) 25 (tbCells (.slice a t.held.length cap) (.slice a6 l6.length c6)), .ob b3 29 (grCells g), .ob b4 25 (tbCells (.slice none 0 0) (.slice none 0 0)), .rd R, .ob B84 29 (grCells wx), .sl ((.slice a6 l6.length c6)) 29 4 (l6.length) (grRow l6)] w248):=HS250.out.pull [0, 1, 2, 3, 4, 5] rfl (pull_nd HS250.out.nd [0, 1, 2, 3, 4, 5] rfl (by decide))
      clear HS250
      obtain ⟨R7, h7, hn7, hs7⟩:=Hp.ownrd2 (A:=[.ob (w.heap.size) 25 (tbCells (.slice a t.held.length cap) (.slice a6 l6.length c6)), .ob b3 29 (grCells g), .ob b4 25 (tbCells (.slice none 0 0) (.slice none 0 0)), .rd R, .ob B84 29 (grCells wx)]) HS251.out
      go_wp2_with fail
      go_meet
      exact ⟨a6, c6, R7, h7, hn7, hs7⟩
    ·have q0:=(HS243.out).at 0 rfl 1 rfl
     go_simp
     clear q0
     have HS244:=HS243
     refine hK.out _ _ ((fun j v hv=>by rw [Nat.zero_add];exact (HS244.out).at 1 rfl j hv)) (fun hHeld=>?_)
     clear hK K
     try simp only [z0, z1, z2, z3]
     refine tk 11 qRfLk9_20 (some 67) (v:=.slice (if cap2 = p then a2 else Option.map (fun x=>Addr.add x (p * 4)) a2) (t.wait.length - p) (cap2 - p)) (Or.inl ⟨by rfl, ?q919h⟩) hHeld ?q919r
     case q919h=>(intro _ h;clear h;go_simp;try with_reducible rfl)
     try simp only [z0, z1, z2, z3]
     refine wpAnyH_ready (rs:=[4, 6]) (by kernel_rfl) (by simp) ?_
     refine AllReadyH.cons (o:=qRfLk9_18) rfl (fun K hK=>?_) (AllReadyH.cons (o:=qRfLk9_15) rfl (fun K hK=>?_) (AllReadyH.nil))
     ·rw [if_pos (by rfl)]
      refine wp_append_sl (HS244.out) (.const (.slice none 0 0)) (.tmp 59) 23 rfl 5 (v:=.slice none 0 0) (n:=0) (xs:=[]) rfl (xv:=.slice a2 p cap2) (m:=(t.wait.take p).length) (ys:=grRow (t.wait.take p)) (R:=R5) HT5.out (HI5.out _ ((HS244.out).reads 3 rfl)) HUX.out elem_gr rfl rfl (one_grs _) (by have:=HLn.out;rw [List.length_take];omega) ?_
      intro v5 w244 hs
      have hs2 : Hp w [.ob (w.heap.size) 25 (tbCells (.slice a t.held.length cap) (.slice a2 t.wait.length cap2)), .ob b3 29 (grCells g), .ob b4 25 (tbCells (.slice none 0 0) (.slice none 0 0)), .rd R, .ob B84 29 (grCells wx), .sl v5 29 4 ((t.wait.take p).length) (grRow (t.wait.take p))] w244:=by
       have h9:=hs
       simp only [Nat.zero_add, List.nil_append] at h9
       exact h9
      clear hs
      have HS245:=Lib.hid hs2
      refine hK.out _ _ ((fun j v hv=>by rw [Nat.zero_add];exact (HS245.out).at 1 rfl j hv)) (fun hHeld=>?_)
      clear hK K hs2
      try simp only [z0, z1, z2, z3]
      refine tn 6 qRfLk9_15 (fun K hK=>?_)
      rw [if_pos (by rfl)]
      refine wp_build_obs rfl elem_gr HUX.out [grCells g] (List.forall_mem_cons.2 ⟨rfl, (fun _ h=>absurd h List.not_mem_nil)⟩) (Nat.succ_pos _) (by simp only [List.length_cons, List.length_nil];omega) rfl (by simp only [List.map_toArray, List.map_cons, List.map_nil, List.zipIdx_cons, List.zipIdx_nil];exact rfl) ?_
      have HS246 : Hid (Hp w [.ob (w.heap.size) 25 (tbCells (.slice a t.held.length cap) (.slice a2 t.wait.length cap2)), .ob b3 29 (grCells g), .ob b4 25 (tbCells (.slice none 0 0) (.slice none 0 0)), .rd R, .ob B84 29 (grCells wx), .sl v5 29 4 ((t.wait.take p).length) (grRow (t.wait.take p)), .ob (w244.heap.size) 29 (([grCells g] : List (List Value)).flatMap id)] (w244.alloc (.cells (([grCells g] : List (List Value)).flatMap id).toArray 29))):=(HS245.out).put 29 (([grCells g] : List (List Value)).flatMap id)
      refine hK.out _ _ ((fun j v hv=>by rw [Nat.zero_add];exact (HS246.out).at 1 rfl j hv)) (fun hHeld=>?_)
      clear hK K
      generalize (w244.alloc (.cells (([grCells g] : List (List Value)).flatMap id).toArray 29)) = w245 at *
      generalize w244.heap.size = B243 at *
      try simp only [z0, z1, z2, z3]
      refine tn 7 qRfLk9_19 (fun K hK=>?_)
      rw [if_pos (by rfl)]
      refine wp_append_hp (HS246.out) (.tmp 60) (.tmp 62) 23 rfl 5 rfl 6 rfl HUX.out elem_gr 1 1 rfl rfl rfl (by intro u hu;simp only [List.flatMap_cons, List.flatMap_nil, List.append_nil, id] at hu;exact one_gr _ u hu) (by have:=HLn.out;rw [List.length_take];omega) ?_
      intro v246 w246 hs hnil
      have HS248:=Lib.hid hs
      refine hK.out _ _ ((fun j v hv=>by rw [Nat.zero_add];exact (HS248.out).at 1 rfl j hv)) (fun hHeld=>?_)
      clear hK K hs
      try simp only [z0, z1, z2, z3]
      refine tn 12 qRfLk9_21 (fun K hK=>?_)
      rw [if_pos (by rfl)]
      refine wp_append_sl (HS248.out) (.tmp 63) (.tmp 67) 23 rfl 5 (v:=v246) (n:=(t.wait.take p).length + 1) (xs:=(grRow (t.wait.take p)) ++ (([grCells g] : List (List Value)).flatMap id)) rfl (xv:=.slice (if cap2 = p then a2 else Option.map (fun x=>Addr.add x (p * 4)) a2) (t.wait.length - p) (cap2 - p)) (m:=(t.wait.drop p).length) (ys:=grRow (t.wait.drop p)) (R:=R6) HT6.out (HI6.out _ ((HS248.out).reads 3 rfl)) HUX.out elem_gr rfl rfl (one_grs _) (by have:=HLn.out;rw [List.length_take, List.length_drop];omega) ?_
      intro v6 w247 hs
      have hs2 : Hp w [.ob (w.heap.size) 25 (tbCells (.slice a t.held.length cap) (.slice a2 t.wait.length cap2)), .ob b3 29 (grCells g), .ob b4 25 (tbCells (.slice none 0 0) (.slice none 0 0)), .rd R, .ob B84 29 (grCells wx), .sl v6 29 4 (l6.length) (grRow l6), .ob B243 29 (([grCells g] : List (List Value)).flatMap id)] w247:=by
       rw [← HL6.out, grRow_append, grRow_append, grRow_one, List.length_append, List.length_append, ← List.append_assoc, ← Nat.add_assoc]
       exact hs
      clear hs
      have HS249:=Lib.hid hs2
      refine hK.out _ _ ((fun j v hv=>by rw [Nat.zero_add];exact (HS249.out).at 1 rfl j hv)) (fun hHeld=>?_)
      clear hK K hs2
      try simp only [z0, z1, z2, z3]
      refine tk 13 qRfLk9_22 (some 69) (v:=?q920v) (Or.inl ⟨by rfl, ?q920h⟩) hHeld ?q920r
      case q920h=>(intro _ h;clear h;go_simp;try with_reducible rfl)
      try simp only [z0, z1, z2, z3]
      refine tn 14 qRfLk9_23 (fun K hK=>?_)
      rw [if_pos (by rfl)]
      obtain ⟨a6, c6, rfl⟩:=own_slice ((HS249.out).own 5 rfl)
      have q5:=(HS249.out).at 0 rfl 1 rfl
      have f5:=(HS249.out).frozen 0 rfl 1
      go_simp
      clear q5 f5
      have HS250 : Hid (Hp w [.ob (w.heap.size) 25 (tbCells (.slice a t.held.length cap) (.slice a6 l6.length c6)), .ob b3 29 (grCells g), .ob b4 25 (tbCells (.slice none 0 0) (.slice none 0 0)), .rd R, .ob B84 29 (grCells wx), .sl ((.slice a6 l6.length c6)) 29 4 (l6.length) (grRow l6), .ob B243 29 (([grCells g] : List (List Value)).flatMap id)] (w247.setCell ⟨w.heap.size, 1, none⟩ (.slice a6 l6.length c6))):=(HS249.out).set 0 rfl 1 (.slice a6 l6.length c6)
      refine hK.out _ _ ((fun j v hv=>by rw [Nat.zero_add];exact (HS250.out).at 1 rfl j hv)) (fun hHeld=>?_)
      clear hK K
      generalize (w247.setCell ⟨w.heap.size, 1, none⟩ (.slice a6 l6.length c6)) = w248 at *
      try simp only [z0, z1, z2, z3]
      refine wpAnyH_done (by kernel_rfl) ?_ _
      clear hHeld
      generalize (if cap2 = p then a2 else Option.map (fun x=>Addr.add x (p * 4)) a2) = ap9 at *
      have HS251 : Hid (Hp w [.ob (w.heap.size) 25 (tbCells (.slice a t.held.length cap) (.slice a6 l6.length c6)), .ob b3 29 (grCells g), .ob b4 25 (tbCells (.slice none 0 0) (.slice none 0 0)), .rd R, .ob B84 29 (grCells wx), .sl ((.slice a6 l6.length c6)) 29 4 (l6.length) (grRow l6)] w248):=HS250.out.pull [0, 1, 2, 3, 4, 5] rfl (pull_nd HS250.out.nd [0, 1, 2, 3, 4, 5] rfl (by decide))
      clear HS250
      obtain ⟨R7, h7, hn7, hs7⟩:=Hp.ownrd2 (A:=[.ob (w.heap.size) 25 (tbCells (.slice a t.held.length cap) (.slice a6 l6.length c6)), .ob b3 29 (grCells g), .ob b4 25 (tbCells (.slice none 0 0) (.slice none 0 0)), .rd R, .ob B84 29 (grCells wx)]) HS251.out
      go_wp2_with fail
      go_meet
      exact ⟨a6, c6, R7, h7, hn7, hs7⟩
     ·rw [if_pos (by rfl)]
      refine wp_build_obs rfl elem_gr HUX.out [grCells g] (List.forall_mem_cons.2 ⟨rfl, (fun _ h=>absurd h List.not_mem_nil)⟩) (Nat.succ_pos _) (by simp only [List.length_cons, List.length_nil];omega) rfl (by simp only [List.map_toArray, List.map_cons, List.map_nil, List.zipIdx_cons, List.zipIdx_nil];exact rfl) ?_
      have HS245 : Hid (Hp w [.ob (w.heap.size) 25 (tbCells (.slice a t.held.length cap) (.slice a2 t.wait.length cap2)), .ob b3 29 (grCells g), .ob b4 25 (tbCells (.slice none 0 0) (.slice none 0 0)), .rd R, .ob B84 29 (grCells wx), .sl ((.slice none 0 0)) 29 4 (0) ([]), .ob (w243.heap.size) 29 (([grCells g] : List (List Value)).flatMap id)] (w243.alloc (.cells (([grCells g] : List (List Value)).flatMap id).toArray 29))):=(HS244.out).put 29 (([grCells g] : List (List Value)).flatMap id)
      refine hK.out _ _ ((fun j v hv=>by rw [Nat.zero_add];exact (HS245.out).at 1 rfl j hv)) (fun hHeld=>?_)
      clear hK K
      generalize (w243.alloc (.cells (([grCells g] : List (List Value)).flatMap id).toArray 29)) = w244 at *
      generalize w243.heap.size = B243 at *
      try simp only [z0, z1, z2, z3]
      refine tn 4 qRfLk9_18 (fun K hK=>?_)
      rw [if_pos (by rfl)]
      refine wp_append_sl (HS245.out) (.const (.slice none 0 0)) (.tmp 59) 23 rfl 5 (v:=.slice none 0 0) (n:=0) (xs:=[]) rfl (xv:=.slice a2 p cap2) (m:=(t.wait.take p).length) (ys:=grRow (t.wait.take p)) (R:=R5) HT5.out (HI5.out _ ((HS245.out).reads 3 rfl)) HUX.out elem_gr rfl rfl (one_grs _) (by have:=HLn.out;rw [List.length_take];omega) ?_
      intro v5 w245 hs
      have hs2 : Hp w [.ob (w.heap.size) 25 (tbCells (.slice a t.held.length cap) (.slice a2 t.wait.length cap2)), .ob b3 29 (grCells g), .ob b4 25 (tbCells (.slice none 0 0) (.slice none 0 0)), .rd R, .ob B84 29 (grCells wx), .sl v5 29 4 ((t.wait.take p).length) (grRow (t.wait.take p)), .ob B243 29 (([grCells g] : List (List Value)).flatMap id)] w245:=by
       have h9:=hs
       simp only [Nat.zero_add, List.nil_append] at h9
       exact h9
      clear hs
      have HS246:=Lib.hid hs2
      refine hK.out _ _ ((fun j v hv=>by rw [Nat.zero_add];exact (HS246.out).at 1 rfl j hv)) (fun hHeld=>?_)
      clear hK K hs2
      try simp only [z0, z1, z2, z3]
      refine tn 7 qRfLk9_19 (fun K hK=>?_)
      rw [if_pos (by rfl)]
      refine wp_append_hp (HS246.out) (.tmp 60) (.tmp 62) 23 rfl 5 rfl 6 rfl HUX.out elem_gr 1 1 rfl rfl rfl (by intro u hu;simp only [List.flatMap_cons, List.flatMap_nil, List.append_nil, id] at hu;exact one_gr _ u hu) (by have:=HLn.out;rw [List.length_take];omega) ?_
      intro v246 w246 hs hnil
      have HS248:=Lib.hid hs
      refine hK.out _ _ ((fun j v hv=>by rw [Nat.zero_add];exact (HS248.out).at 1 rfl j hv)) (fun hHeld=>?_)
      clear hK K hs
      try simp only [z0, z1, z2, z3]
      refine tn 12 qRfLk9_21 (fun K hK=>?_)
      rw [if_pos (by rfl)]
      refine wp_append_sl (HS248.out) (.tmp 63) (.tmp 67) 23 rfl 5 (v:=v246) (n:=(t.wait.take p).length + 1) (xs:=(grRow (t.wait.take p)) ++ (([grCells g] : List (List Value)).flatMap id)) rfl (xv:=.slice (if cap2 = p then a2 else Option.map (fun x=>Addr.add x (p * 4)) a2) (t.wait.length - p) (cap2 - p)) (m:=(t.wait.drop p).length) (ys:=grRow (t.wait.drop p)) (R:=R6) HT6.out (HI6.out _ ((HS248.out).reads 3 rfl)) HUX.out elem_gr rfl rfl (one_grs _) (by have:=HLn.out;rw [List.length_take, List.length_drop];omega) ?_
      intro v6 w247 hs
      have hs2 : Hp w [.ob (w.heap.size) 25 (tbCells (.slice a t.held.length cap) (.slice a2 t.wait.length cap2)), .ob b3 29 (grCells g), .ob b4 25 (tbCells (.slice none 0 0) (.slice none 0 0)), .rd R, .ob B84 29 (grCells wx), .sl v6 29 4 (l6.length) (grRow l6), .ob B243 29 (([grCells g] : List (List Value)).flatMap id)] w247:=by
       rw [← HL6.out, grRow_append, grRow_append, grRow_one, List.length_append, List.length_append, ← List.append_assoc, ← Nat.add_assoc]
       exact hs
      clear hs
      have HS249:=Lib.hid hs2
      refine hK.out _ _ ((fun j v hv=>by rw [Nat.zero_add];exact (HS249.out).at 1 rfl j hv)) (fun hHeld=>?_)
      clear hK K hs2
      try simp only [z0, z1, z2, z3]
      refine tk 13 qRfLk9_22 (some 69) (v:=?q921v) (Or.inl ⟨by rfl, ?q921h⟩) hHeld ?q921r
      case q921h=>(intro _ h;clear h;go_simp;try with_reducible rfl)
      try simp only [z0, z1, z2, z3]
      refine tn 14 qRfLk9_23 (fun K hK=>?_)
      rw [if_pos (by rfl)]
      obtain ⟨a6, c6, rfl⟩:=own_slice ((HS249.out).own 5 rfl)
      have q5:=(HS249.out).at 0 rfl 1 rfl
      have f5:=(HS249.out).frozen 0 rfl 1
      go_simp
      clear q5 f5
      have HS250 : Hid (Hp w [.ob (w.heap.size) 25 (tbCells (.slice a t.held.length cap) (.slice a6 l6.length c6)), .ob b3 29 (grCells g), .ob b4 25 (tbCells (.slice none 0 0) (.slice none 0 0)), .rd R, .ob B84 29 (grCells wx), .sl ((.slice a6 l6.length c6)) 29 4 (l6.length) (grRow l6), .ob B243 29 (([grCells g] : List (List Value)).flatMap id)] (w247.setCell ⟨w.heap.size, 1, none⟩ (.slice a6 l6.length c6))):=(HS249.out).set 0 rfl 1 (.slice a6 l6.length c6)
      refine hK.out _ _ ((fun j v hv=>by rw [Nat.zero_add];exact (HS250.out).at 1 rfl j hv)) (fun hHeld=>?_)
      clear hK K
      generalize (w247.setCell ⟨w.heap.size, 1, none⟩ (.slice a6 l6.length c6)) = w248 at *
      try simp only [z0, z1, z2, z3]
      refine wpAnyH_done (by kernel_rfl) ?_ _
      clear hHeld
      generalize (if cap2 = p then a2 else Option.map (fun x=>Addr.add x (p * 4)) a2) = ap9 at *
      have HS251 : Hid (Hp w [.ob (w.heap.size) 25 (tbCells (.slice a t.held.length cap) (.slice a6 l6.length c6)), .ob b3 29 (grCells g), .ob b4 25 (tbCells (.slice none 0 0) (.slice none 0 0)), .rd R, .ob B84 29 (grCells wx), .sl ((.slice a6 l6.length c6)) 29 4 (l6.length) (grRow l6)] w248):=HS250.out.pull [0, 1, 2, 3, 4, 5] rfl (pull_nd HS250.out.nd [0, 1, 2, 3, 4, 5] rfl (by decide))
      clear HS250
      obtain ⟨R7, h7, hn7, hs7⟩:=Hp.ownrd2 (A:=[.ob (w.heap.size) 25 (tbCells (.slice a t.held.length cap) (.slice a6 l6.length c6)), .ob b3 29 (grCells g), .ob b4 25 (tbCells (.slice none 0 0) (.slice none 0 0)), .rd R, .ob B84 29 (grCells wx)]) HS251.out
      go_wp2_with fail
      go_meet
      exact ⟨a6, c6, R7, h7, hn7, hs7⟩
   ·rw [if_pos (by rfl)]
    refine wp_build_obs rfl elem_gr HUX.out [grCells g] (List.forall_mem_cons.2 ⟨rfl, (fun _ h=>absurd h List.not_mem_nil)⟩) (Nat.succ_pos _) (by simp only [List.length_cons, List.length_nil];omega) rfl (by simp only [List.map_toArray, List.map_cons, List.map_nil, List.zipIdx_cons, List.zipIdx_nil];exact rfl) ?_
    have HS243 : Hid (Hp w [.ob (w.heap.size) 25 (tbCells (.slice a t.held.length cap) (.slice a2 t.wait.length cap2)), .ob b3 29 (grCells g), .ob b4 25 (tbCells (.slice none 0 0) (.slice none 0 0)), .rd R, .ob B84 29 (grCells wx), .sl ((.slice none 0 0)) 29 4 (0) ([]), .ob (w222.drew.heap.size) 29 (([grCells g] : List (List Value)).flatMap id)] (w222.drew.alloc (.cells (([grCells g] : List (List Value)).flatMap id).toArray 29))):=((HN0.out).drew).put 29 (([grCells g] : List (List Value)).flatMap id)
    refine hK.out _ _ ((fun j v hv=>by rw [Nat.zero_add];exact (HS243.out).at 1 rfl j hv)) (fun hHeld=>?_)
    clear hK K
    generalize (w222.drew.alloc (.cells (([grCells g] : List (List Value)).flatMap id).toArray 29)) = w243 at *
    generalize w222.drew.heap.size = B243 at *
    try simp only [z0, z1, z2, z3]
    refine wpAnyH_ready (rs:=[1, 9]) (by kernel_rfl) (by simp) ?_
    refine AllReadyH.cons (o:=qRfLk9_14) rfl (fun K hK=>?_) (AllReadyH.cons (o:=qRfLk9_16) rfl (fun K hK=>?_) (AllReadyH.nil))
    ·have q0:=(HS243.out).at 0 rfl 1 rfl
     go_simp
     clear q0
     have HS244:=HS243
     refine hK.out _ _ ((fun j v hv=>by rw [Nat.zero_add];exact (HS244.out).at 1 rfl j hv)) (fun hHeld=>?_)
     clear hK K
     try simp only [z0, z1, z2, z3]
     refine tk 3 qRfLk9_17 (some 59) (v:=.slice a2 p cap2) (Or.inl ⟨by rfl, ?q922h⟩) hHeld ?q922r
     case q922h=>(intro _ h;clear h;go_simp;try with_reducible rfl)
     try simp only [z0, z1, z2, z3]
     refine wpAnyH_ready (rs:=[4, 9]) (by kernel_rfl) (by simp) ?_
     refine AllReadyH.cons (o:=qRfLk9_18) rfl (fun K hK=>?_) (AllReadyH.cons (o:=qRfLk9_16) rfl (fun K hK=>?_) (AllReadyH.nil))
     ·rw [if_pos (by rfl)]
      refine wp_append_sl (HS244.out) (.const (.slice none 0 0)) (.tmp 59) 23 rfl 5 (v:=.slice none 0 0) (n:=0) (xs:=[]) rfl (xv:=.slice a2 p cap2) (m:=(t.wait.take p).length) (ys:=grRow (t.wait.take p)) (R:=R5) HT5.out (HI5.out _ ((HS244.out).reads 3 rfl)) HUX.out elem_gr rfl rfl (one_grs _) (by have:=HLn.out;rw [List.length_take];omega) ?_
      intro v5 w244 hs
      have hs2 : Hp w [.ob (w.heap.size) 25 (tbCells (.slice a t.held.length cap) (.slice a2 t.wait.length cap2)), .ob b3 29 (grCells g), .ob b4 25 (tbCells (.slice none 0 0) (.slice none 0 0)), .rd R, .ob B84 29 (grCells wx), .sl v5 29 4 ((t.wait.take p).length) (grRow (t.wait.take p)), .ob B243 29 (([grCells g] : List (List Value)).flatMap id)] w244:=by
       have h9:=hs
       simp only [Nat.zero_add, List.nil_append] at h9
       exact h9
      clear hs
      have HS245:=Lib.hid hs2
      refine hK.out _ _ ((fun j v hv=>by rw [Nat.zero_add];exact (HS245.out).at 1 rfl j hv)) (fun hHeld=>?_)
      clear hK K hs2
      try simp only [z0, z1, z2, z3]
      refine wpAnyH_ready (rs:=[7, 9]) (by kernel_rfl) (by simp) ?_
      refine AllReadyH.cons (o:=qRfLk9_19) rfl (fun K hK=>?_) (AllReadyH.cons (o:=qRfLk9_16) rfl (fun K hK=>?_) (AllReadyH.nil))
      ·rw [if_pos (by rfl)]
       refine wp_append_hp (HS245.out) (.tmp 60) (.tmp 62) 23 rfl 5 rfl 6 rfl HUX.out elem_gr 1 1 rfl rfl rfl (by intro u hu;simp only [List.flatMap_cons, List.flatMap_nil, List.append_nil, id] at hu;exact one_gr _ u hu) (by have:=HLn.out;rw [List.length_take];omega) ?_
       intro v245 w245 hs hnil
       have HS247:=Lib.hid hs
       refine hK.out _ _ ((fun j v hv=>by rw [Nat.zero_add];exact (HS247.out).at 1 rfl j hv)) (fun hHeld=>?_)
       clear hK K hs
       try simp only [z0, z1, z2, z3]
       refine tn 9 qRfLk9_16 (fun K hK=>?_)
       have q0:=(HS247.out).at 0 rfl 1 rfl
       go_simp
       clear q0
       have HS248:=HS247
       refine hK.out _ _ ((fun j v hv=>by rw [Nat.zero_add];exact (HS248.out).at 1 rfl j hv)) (fun hHeld=>?_)
       clear hK K
       try simp only [z0, z1, z2, z3]
       refine tk 11 qRfLk9_20 (some 67) (v:=.slice (if cap2 = p then a2 else Option.map (fun x=>Addr.add x (p * 4)) a2) (t.wait.length - p) (cap2 - p)) (Or.inl ⟨by rfl, ?q923h⟩) hHeld ?q923r
       case q923h=>(intro _ h;clear h;go_simp;try with_reducible rfl)
       try simp only [z0, z1, z2, z3]
       refine tn 12 qRfLk9_21 (fun K hK=>?_)
       rw [if_pos (by rfl)]
       refine wp_append_sl (HS248.out) (.tmp 63) (.tmp 67) 23 rfl 5 (v:=v245) (n:=(t.wait.take p).length + 1) (xs:=(grRow (t.wait.take p)) ++ (([grCells g] : List (List Value)).flatMap id)) rfl (xv:=.slice (if cap2 = p then a2 else Option.map (fun x=>Addr.add x (p * 4)) a2) (t.wait.length - p) (cap2 - p)) (m:=(t.wait.drop p).length) (ys:=grRow (t.wait.drop p)) (R:=R6) HT6.out (HI6.out _ ((HS248.out).reads 3 rfl)) HUX.out elem_gr rfl rfl (one_grs _) (by have:=HLn.out;rw [List.length_take, List.length_drop];omega) ?_
       intro v6 w246 hs
       have hs2 : Hp w [.ob (w.heap.size) 25 (tbCells (.slice a t.held.length cap) (.slice a2 t.wait.length cap2)), .ob b3 29 (grCells g), .ob b4 25 (tbCells (.slice none 0 0) (.slice none 0 0)), .rd R, .ob B84 29 (grCells wx), .sl v6 29 4 (l6.length) (grRow l6), .ob B243 29 (([grCells g] : List (List Value)).flatMap id)] w246:=by
        rw [← HL6.out, grRow_append, grRow_append, grRow_one, List.length_append, List.length_append, ← List.append_assoc, ← Nat.add_assoc]
        exact hs
       clear hs
       have HS249:=Lib.hid hs2
       refine hK.out _ _ ((fun j v hv=>by rw [Nat.zero_add];exact (HS249.out).at 1 rfl j hv)) (fun hHeld=>?_)
       clear hK K hs2
       try simp only [z0, z1, z2, z3]
       refine tk 13 qRfLk9_22 (some 69) (v:=?q924v) (Or.inl ⟨by rfl, ?q924h⟩) hHeld ?q924r
       case q924h=>(intro _ h;clear h;go_simp;try with_reducible rfl)
       try simp only [z0, z1, z2, z3]
       refine tn 14 qRfLk9_23 (fun K hK=>?_)
       rw [if_pos (by rfl)]
       obtain ⟨a6, c6, rfl⟩:=own_slice ((HS249.out).own 5 rfl)
       have q5:=(HS249.out).at 0 rfl 1 rfl
       have f5:=(HS249.out).frozen 0 rfl 1
       go_simp
       clear q5 f5
       have HS250 : Hid (Hp w [.ob (w.heap.size) 25 (tbCells (.slice a t.held.length cap) (.slice a6 l6.length c6)), .ob b3 29 (grCells g), .ob b4 25 (tbCells (.slice none 0 0) (.slice none 0 0)), .rd R, .ob B84 29 (grCells wx), .sl ((.slice a6 l6.length c6)) 29 4 (l6.length) (grRow l6), .ob B243 29 (([grCells g] : List (List Value)).flatMap id)] (w246.setCell ⟨w.heap.size, 1, none⟩ (.slice a6 l6.length c6))):=(HS249.out).set 0 rfl 1 (.slice a6 l6.length c6)
       refine hK.out _ _ ((fun j v hv=>by rw [Nat.zero_add];exact (HS250.out).at 1 rfl j hv)) (fun hHeld=>?_)
       clear hK K
       generalize (w246.setCell ⟨w.heap.size, 1, none⟩ (.slice a6 l6.length c6)) = w247 at *
       try simp only [z0, z1, z2, z3]
       refine wpAnyH_done (by kernel_rfl) ?_ _
       clear hHeld
       generalize (if cap2 = p then a2 else Option.map (fun x=>Addr.add x (p * 4)) a2) = ap9 at *
       have HS251 : Hid (Hp w [.ob (w.heap.size) 25 (tbCells (.slice a t.held.length cap) (.slice a6 l6.length c6)), .ob b3 29 (grCells g), .ob b4 25 (tbCells (.slice none 0 0) (.slice none 0 0)), .rd R, .ob B84 29 (grCells wx), .sl ((.slice a6 l6.length c6)) 29 4 (l6.length) (grRow l6)] w247):=HS250.out.pull [0, 1, 2, 3, 4, 5] rfl (pull_nd HS250.out.nd [0, 1, 2, 3, 4, 5] rfl (by decide))
       clear HS250
       obtain ⟨R7, h7, hn7, hs7⟩:=Hp.ownrd2 (A:=[.ob (w.heap.size) 25 (tbCells (.slice a t.held.length cap) (.slice a6 l6.length c6)), .ob b3 29 (grCells g), .ob b4 25 (tbCells (.slice none 0 0) (.slice none 0 0)), .rd R, .ob B84 29 (grCells wx)]) HS251.out
       go_wp2_with fail
       go_meet
       exact ⟨a6, c6, R7, h7, hn7, hs7⟩
      ·have q0:=(HS245.out).at 0 rfl 1 rfl
       go_simp
       clear q0
       have HS246:=HS245
       refine hK.out _ _ ((fun j v hv=>by rw [Nat.zero_add];exact (HS246.out).at 1 rfl j hv)) (fun hHeld=>?_)
       clear hK K
       try simp only [z0, z1, z2, z3]
       refine tk 11 qRfLk9_20 (some 67) (v:=.slice (if cap2 = p then a2 else Option.map (fun x=>Addr.add x (p * 4)) a2) (t.wait.length - p) (cap2 - p)) (Or.inl ⟨by rfl, ?q925h⟩) hHeld ?q925r
       case q925h=>(intro _ h;clear h;go_simp;try with_reducible rfl)
       try simp only [z0, z1, z2, z3]
       refine tn 7 qRfLk9_19 (fun K hK=>?_)
       rw [if_pos (by rfl)]
       refine wp_append_hp (HS246.out) (.tmp 60) (.tmp 62) 23 rfl 5 rfl 6 rfl HUX.out elem_gr 1 1 rfl rfl rfl (by intro u hu;simp only [List.flatMap_cons, List.flatMap_nil, List.append_nil, id] at hu;exact one_gr _ u hu) (by have:=HLn.out;rw [List.length_take];omega) ?_
       intro v245 w245 hs hnil
       have HS248:=Lib.hid hs
       refine hK.out _ _ ((fun j v hv=>by rw [Nat.zero_add];exact (HS248.out).at 1 rfl j hv)) (fun hHeld=>?_)
       clear hK K hs
       try simp only [z0, z1, z2, z3]
       refine tn 12 qRfLk9_21 (fun K hK=>?_)
       rw [if_pos (by rfl)]
       refine wp_append_sl (HS248.out) (.tmp 63) (.tmp 67) 23 rfl 5 (v:=v245) (n:=(t.wait.take p).length + 1) (xs:=(grRow (t.wait.take p)) ++ (([grCells g] : List (List Value)).flatMap id)) rfl (xv:=.slice (if cap2 = p then a2 else Option.map (fun x=>Addr.add x (p * 4)) a2) (t.wait.length - p) (cap2 - p)) (m:=(t.wait.drop p).length) (ys:=grRow (t.wait.drop p)) (R:=R6) HT6.out (HI6.out _ ((HS248.out).reads 3 rfl)) HUX.out elem_gr rfl rfl (one_grs _) (by have:=HLn.out;rw [List.length_take, List.length_drop];omega) ?_
       intro v6 w246 hs
       have hs2 : Hp w [.ob (w.heap.size) 25 (tbCells (.slice a t.held.length cap) (.slice a2 t.wait.length cap2)), .ob b3 29 (grCells g), .ob b4 25 (tbCells (.slice none 0 0) (.slice none 0 0)), .rd R, .ob B84 29 (grCells wx), .sl v6 29 4 (l6.length) (grRow l6), .ob B243 29 (([grCells g] : List (List Value)).flatMap id)] w246:=by
        rw [← HL6.out, grRow_append, grRow_append, grRow_one, List.length_append, List.length_append, ← List.append_assoc, ← Nat.add_assoc]
        exact hs
       clear hs
       have HS249:=Lib.hid hs2
       refine hK.out _ _ ((fun j v hv=>by rw [Nat.zero_add];exact (HS249.out).at 1 rfl j hv)) (fun hHeld=>?_)
       clear hK K hs2
       try simp only [z0, z1, z2, z3]
       refine tk 13 qRfLk9_22 (some 69) (v:=?q926v) (Or.inl ⟨by rfl, ?q926h⟩) hHeld ?q926r
       case q926h=>(intro _ h;clear h;go_simp;try with_reducible rfl)
       try simp only [z0, z1, z2, z3]
       refine tn 14 qRfLk9_23 (fun K hK=>?_)
       rw [if_pos (by rfl)]
       obtain ⟨a6, c6, rfl⟩:=own_slice ((HS249.out).own 5 rfl)
       have q5:=(HS249.out).at 0 rfl 1 rfl
       have f5:=(HS249.out).frozen 0 rfl 1
       go_simp
       clear q5 f5
       have HS250 : Hid (Hp w [.ob (w.heap.size) 25 (tbCells (.slice a t.held.length cap) (.slice a6 l6.length c6)), .ob b3 29 (grCells g), .ob b4 25 (tbCells (.slice none 0 0) (.slice none 0 0)), .rd R, .ob B84 29 (grCells wx), .sl ((.slice a6 l6.length c6)) 29 4 (l6.length) (grRow l6), .ob B243 29 (([grCells g] : List (List Value)).flatMap id)] (w246.setCell ⟨w.heap.size, 1, none⟩ (.slice a6 l6.length c6))):=(HS249.out).set 0 rfl 1 (.slice a6 l6.length c6)
       refine hK.out _ _ ((fun j v hv=>by rw [Nat.zero_add];exact (HS250.out).at 1 rfl j hv)) (fun hHeld=>?_)
       clear hK K
       generalize (w246.setCell ⟨w.heap.size, 1, none⟩ (.slice a6 l6.length c6)) = w247 at *
       try simp only [z0, z1, z2, z3]
       refine wpAnyH_done (by kernel_rfl) ?_ _
       clear hHeld
       generalize (if cap2 = p then a2 else Option.map (fun x=>Addr.add x (p * 4)) a2) = ap9 at *
       have HS251 : Hid (Hp w [.ob (w.heap.size) 25 (tbCells (.slice a t.held.length cap) (.slice a6 l6.length c6)), .ob b3 29 (grCells g), .ob b4 25 (tbCells (.slice none 0 0) (.slice none 0 0)), .rd R, .ob B84 29 (grCells wx), .sl ((.slice a6 l6.length c6)) 29 4 (l6.length) (grRow l6)] w247):=HS250.out.pull [0, 1, 2, 3, 4, 5] rfl (pull_nd HS250.out.nd [0, 1, 2, 3, 4, 5] rfl (by decide))
       clear HS250
       obtain ⟨R7, h7, hn7, hs7⟩:=Hp.ownrd2 (A:=[.ob (w.heap.size) 25 (tbCells (.slice a t.held.length cap) (.slice a6 l6.length c6)), .ob b3 29 (grCells g), .ob b4 25 (tbCells (.slice none 0 0) (.slice none 0 0)), .rd R, .ob B84 29 (grCells wx)]) HS251.out
       go_wp2_with fail
       go_meet
       exact ⟨a6, c6, R7, h7, hn7, hs7⟩
     ·have q0:=(HS244.out).at 0 rfl 1 rfl
      go_simp
      clear q0
      have HS245:=HS244
      refine hK.out _ _ ((fun j v hv=>by rw [Nat.zero_add];exact (HS245.out).at 1 rfl j hv)) (fun hHeld=>?_)
      clear hK K
      try simp only [z0, z1, z2, z3]
      refine tk 11 qRfLk9_20 (some 67) (v:=.slice (if cap2 = p then a2 else Option.map (fun x=>Addr.add x (p * 4)) a2) (t.wait.length - p) (cap2 - p)) (Or.inl ⟨by rfl, ?q927h⟩) hHeld ?q927r
      case q927h=>(intro _ h;clear h;go_simp;try with_reducible rfl)
      try simp only [z0, z1, z2, z3]
      refine tn 4 qRfLk9_18 (fun K hK=>?_)
      rw [if_pos (by rfl)]
      refine wp_append_sl (HS245.out) (.const (.slice none 0 0)) (.tmp 59) 23 rfl 5 (v:=.slice none 0 0) (n:=0) (xs:=[]) rfl (xv:=.slice a2 p cap2) (m:=(t.wait.take p).length) (ys:=grRow (t.wait.take p)) (R:=R5) HT5.out (HI5.out _ ((HS245.out).reads 3 rfl)) HUX.out elem_gr rfl rfl (one_grs _) (by have:=HLn.out;rw [List.length_take];omega) ?_
      intro v5 w244 hs
      have hs2 : Hp w [.ob (w.heap.size) 25 (tbCells (.slice a t.held.length cap) (.slice a2 t.wait.length cap2)), .ob b3 29 (grCells g), .ob b4 25 (tbCells (.slice none 0 0) (.slice none 0 0)), .rd R, .ob B84 29 (grCells wx), .sl v5 29 4 ((t.wait.take p).length) (grRow (t.wait.take p)), .ob B243 29 (([grCells g] : List (List Value)).flatMap id)] w244:=by
       have h9:=hs
       simp only [Nat.zero_add, List.nil_append] at h9
       exact h9
      clear hs
      have HS246:=Lib.hid hs2
      refine hK.out _ _ ((fun j v hv=>by rw [Nat.zero_add];exact (HS246.out).at 1 rfl j hv)) (fun hHeld=>?_)
      clear hK K hs2
      try simp only [z0, z1, z2, z3]
      refine tn 7 qRfLk9_19 (fun K hK=>?_)
      rw [if_pos (by rfl)]
      refine wp_append_hp (HS246.out) (.tmp 60) (.tmp 62) 23 rfl 5 rfl 6 rfl HUX.out elem_gr 1 1 rfl rfl rfl (by intro u hu;simp only [List.flatMap_cons, List.flatMap_nil, List.append_nil, id] at hu;exact one_gr _ u hu) (by have:=HLn.out;rw [List.length_take];omega) ?_
      intro v245 w245 hs hnil
      have HS248:=Lib.hid hs
      refine hK.out _ _ ((fun j v hv=>by rw [Nat.zero_add];exact (HS248.out).at 1 rfl j hv)) (fun hHeld=>?_)
      clear hK K hs
      try simp only [z0, z1, z2, z3]
      refine tn 12 qRfLk9_21 (fun K hK=>?_)
      rw [if_pos (by rfl)]
      refine wp_append_sl (HS248.out) (.tmp 63) (.tmp 67) 23 rfl 5 (v:=v245) (n:=(t.wait.take p).length + 1) (xs:=(grRow (t.wait.take p)) ++ (([grCells g] : List (List Value)).flatMap id)) rfl (xv:=.slice (if cap2 = p then a2 else Option.map (fun x=>Addr.add x (p * 4)) a2) (t.wait.length - p) (cap2 - p)) (m:=(t.wait.drop p).length) (ys:=grRow (t.wait.drop p)) (R:=R6) HT6.out (HI6.out _ ((HS248.out).reads 3 rfl)) HUX.out elem_gr rfl rfl (one_grs _) (by have:=HLn.out;rw [List.length_take, List.length_drop];omega) ?_
      intro v6 w246 hs
      have hs2 : Hp w [.ob (w.heap.size) 25 (tbCells (.slice a t.held.length cap) (.slice a2 t.wait.length cap2)), .ob b3 29 (grCells g), .ob b4 25 (tbCells (.slice none 0 0) (.slice none 0 0)), .rd R, .ob B84 29 (grCells wx), .sl v6 29 4 (l6.length) (grRow l6), .ob B243 29 (([grCells g] : List (List Value)).flatMap id)] w246:=by
       rw [← HL6.out, grRow_append, grRow_append, grRow_one, List.length_append, List.length_append, ← List.append_assoc, ← Nat.add_assoc]
       exact hs
      clear hs
      have HS249:=Lib.hid hs2
      refine hK.out _ _ ((fun j v hv=>by rw [Nat.zero_add];exact (HS249.out).at 1 rfl j hv)) (fun hHeld=>?_)
      clear hK K hs2
      try simp only [z0, z1, z2, z3]
      refine tk 13 qRfLk9_22 (some 69) (v:=?q928v) (Or.inl ⟨by rfl, ?q928h⟩) hHeld ?q928r
      case q928h=>(intro _ h;clear h;go_simp;try with_reducible rfl)
      try simp only [z0, z1, z2, z3]
      refine tn 14 qRfLk9_23 (fun K hK=>?_)
      rw [if_pos (by rfl)]
      obtain ⟨a6, c6, rfl⟩:=own_slice ((HS249.out).own 5 rfl)
      have q5:=(HS249.out).at 0 rfl 1 rfl
      have f5:=(HS249.out).frozen 0 rfl 1
      go_simp
      clear q5 f5
      have HS250 : Hid (Hp w [.ob (w.heap.size) 25 (tbCells (.slice a t.held.length cap) (.slice a6 l6.length c6)), .ob b3 29 (grCells g), .ob b4 25 (tbCells (.slice none 0 0) (.slice none 0 0)), .rd R, .ob B84 29 (grCells wx), .sl ((.slice a6 l6.length c6)) 29 4 (l6.length) (grRow l6), .ob B243 29 (([grCells g] : List (List Value)).flatMap id)] (w246.setCell ⟨w.heap.size, 1, none⟩ (.slice a6 l6.length c6))):=(HS249.out).set 0 rfl 1 (.slice a6 l6.length c6)
      refine hK.out _ _ ((fun j v hv=>by rw [Nat.zero_add];exact (HS250.out).at 1 rfl j hv)) (fun hHeld=>?_)
      clear hK K
      generalize (w246.setCell ⟨w.heap.size, 1, none⟩ (.slice a6 l6.length c6)) = w247 at *
      try simp only [z0, z1, z2, z3]
      refine wpAnyH_done (by kernel_rfl) ?_ _
      clear hHeld
      generalize (if cap2 = p then a2 else Option.map (fun x=>Addr.add x (p * 4)) a2) = ap9 at *
      have HS251 : Hid (Hp w [.ob (w.heap.size) 25 (tbCells (.slice a t.held.length cap) (.slice a6 l6.length c6)), .ob b3 29 (grCells g), .ob b4 25 (tbCells (.slice none 0 0) (.slice none 0 0)), .rd R, .ob B84 29 (grCells wx), .sl ((.slice a6 l6.length c6)) 29 4 (l6.length) (grRow l6)] w247):=HS250.out.pull [0, 1, 2, 3, 4, 5] rfl (pull_nd HS250.out.nd [0, 1, 2, 3, 4, 5] rfl (by decide))
      clear HS250
      obtain ⟨R7, h7, hn7, hs7⟩:=Hp.ownrd2 (A:=[.ob (w.heap.size) 25 (tbCells (.slice a t.held.length cap) (.slice a6 l6.length c6)), .ob b3 29 (grCells g), .ob b4 25 (tbCells (.slice none 0 0) (.slice none 0 0)), .rd R, .ob B84 29 (grCells wx)]) HS251.out
      go_wp2_with fail
      go_meet
      exact ⟨a6, c6, R7, h7, hn7, hs7⟩
    ·have q0:=(HS243.out).at 0 rfl 1 rfl
     go_simp
     clear q0
     have HS244:=HS243
     refine hK.out _ _ ((fun j v hv=>by rw [Nat.zero_add];exact (HS244.out).at 1 rfl j hv)) (fun hHeld=>?_)
     clear hK K
     try simp only [z0, z1, z2, z3]
     refine tk 11 qRfLk9_20 (some 67) (v:=.slice (if cap2 = p then a2 else Option.map (fun x=>Addr.add x (p * 4)) a2) (t.wait.length - p) (cap2 - p)) (Or.inl ⟨by rfl, ?q929h⟩) hHeld ?q929r
     case q929h=>(intro _ h;clear h;go_simp;try with_reducible rfl)
     try simp only [z0, z1, z2, z3]
     refine tn 1 qRfLk9_14 (fun K hK=>?_)
     have q0:=(HS244.out).at 0 rfl 1 rfl
     go_simp
     clear q0
     have HS245:=HS244
     refine hK.out _ _ ((fun j v hv=>by rw [Nat.zero_add];exact (HS245.out).at 1 rfl j hv)) (fun hHeld=>?_)
     clear hK K
     try simp only [z0, z1, z2, z3]
     refine tk 3 qRfLk9_17 (some 59) (v:=.slice a2 p cap2) (Or.inl ⟨by rfl, ?q930h⟩) hHeld ?q930r
     case q930h=>(intro _ h;clear h;go_simp;try with_reducible rfl)
     try simp only [z0, z1, z2, z3]
     refine tn 4 qRfLk9_18 (fun K hK=>?_)
     rw [if_pos (by rfl)]
     refine wp_append_sl (HS245.out) (.const (.slice none 0 0)) (.tmp 59) 23 rfl 5 (v:=.slice none 0 0) (n:=0) (xs:=[]) rfl (xv:=.slice a2 p cap2) (m:=(t.wait.take p).length) (ys:=grRow (t.wait.take p)) (R:=R5) HT5.out (HI5.out _ ((HS245.out).reads 3 rfl)) HUX.out elem_gr rfl rfl (one_grs _) (by have:=HLn.out;rw [List.length_take];omega) ?_
     intro v5 w244 hs
     have hs2 : Hp w [.ob (w.heap.size) 25 (tbCells (.slice a t.held.length cap) (.slice a2 t.wait.length cap2)), .ob b3 29 (grCells g), .ob b4 25 (tbCells (.slice none 0 0) (.slice none 0 0)), .rd R, .ob B84 29 (grCells wx), .sl v5 29 4 ((t.wait.take p).length) (grRow (t.wait.take p)), .ob B243 29 (([grCells g] : List (List Value)).flatMap id)] w244:=by
      have h9:=hs
      simp only [Nat.zero_add, List.nil_append] at h9
      exact h9
     clear hs
     have HS246:=Lib.hid hs2
     refine hK.out _ _ ((fun j v hv=>by rw [Nat.zero_add];exact (HS246.out).at 1 rfl j hv)) (fun hHeld=>?_)
     clear hK K hs2
     try simp only [z0, z1, z2, z3]
     refine tn 7 qRfLk9_19 (fun K hK=>?_)
     rw [if_pos (by rfl)]
     refine wp_append_hp (HS246.out) (.tmp 60) (.tmp 62) 23 rfl 5 rfl 6 rfl HUX.out elem_gr 1 1 rfl rfl rfl (by intro u hu;simp only [List.flatMap_cons, List.flatMap_nil, List.append_nil, id] at hu;exact one_gr _ u hu) (by have:=HLn.out;rw [List.length_take];omega) ?_
     intro v245 w245 hs hnil
     have HS248:=Lib.hid hs
     refine hK.out _ _ ((fun j v hv=>by rw [Nat.zero_add];exact (HS248.out).at 1 rfl j hv)) (fun hHeld=>?_)
     clear hK K hs
     try simp only [z0, z1, z2, z3]
     refine tn 12 qRfLk9_21 (fun K hK=>?_)
     rw [if_pos (by rfl)]
     refine wp_append_sl (HS248.out) (.tmp 63) (.tmp 67) 23 rfl 5 (v:=v245) (n:=(t.wait.take p).length + 1) (xs:=(grRow (t.wait.take p)) ++ (([grCells g] : List (List Value)).flatMap id)) rfl (xv:=.slice (if cap2 = p then a2 else Option.map (fun x=>Addr.add x (p * 4)) a2) (t.wait.length - p) (cap2 - p)) (m:=(t.wait.drop p).length) (ys:=grRow (t.wait.drop p)) (R:=R6) HT6.out (HI6.out _ ((HS248.out).reads 3 rfl)) HUX.out elem_gr rfl rfl (one_grs _) (by have:=HLn.out;rw [List.length_take, List.length_drop];omega) ?_
     intro v6 w246 hs
     have hs2 : Hp w [.ob (w.heap.size) 25 (tbCells (.slice a t.held.length cap) (.slice a2 t.wait.length cap2)), .ob b3 29 (grCells g), .ob b4 25 (tbCells (.slice none 0 0) (.slice none 0 0)), .rd R, .ob B84 29 (grCells wx), .sl v6 29 4 (l6.length) (grRow l6), .ob B243 29 (([grCells g] : List (List Value)).flatMap id)] w246:=by
      rw [← HL6.out, grRow_append, grRow_append, grRow_one, List.length_append, List.length_append, ← List.append_assoc, ← Nat.add_assoc]
      exact hs
     clear hs
     have HS249:=Lib.hid hs2
     refine hK.out _ _ ((fun j v hv=>by rw [Nat.zero_add];exact (HS249.out).at 1 rfl j hv)) (fun hHeld=>?_)
     clear hK K hs2
     try simp only [z0, z1, z2, z3]
     refine tk 13 qRfLk9_22 (some 69) (v:=?q931v) (Or.inl ⟨by rfl, ?q931h⟩) hHeld ?q931r
     case q931h=>(intro _ h;clear h;go_simp;try with_reducible rfl)
     try simp only [z0, z1, z2, z3]
     refine tn 14 qRfLk9_23 (fun K hK=>?_)
     rw [if_pos (by rfl)]
     obtain ⟨a6, c6, rfl⟩:=own_slice ((HS249.out).own 5 rfl)
     have q5:=(HS249.out).at 0 rfl 1 rfl
     have f5:=(HS249.out).frozen 0 rfl 1
     go_simp
     clear q5 f5
     have HS250 : Hid (Hp w [.ob (w.heap.size) 25 (tbCells (.slice a t.held.length cap) (.slice a6 l6.length c6)), .ob b3 29 (grCells g), .ob b4 25 (tbCells (.slice none 0 0) (.slice none 0 0)), .rd R, .ob B84 29 (grCells wx), .sl ((.slice a6 l6.length c6)) 29 4 (l6.length) (grRow l6), .ob B243 29 (([grCells g] : List (List Value)).flatMap id)] (w246.setCell ⟨w.heap.size, 1, none⟩ (.slice a6 l6.length c6))):=(HS249.out).set 0 rfl 1 (.slice a6 l6.length c6)
     refine hK.out _ _ ((fun j v hv=>by rw [Nat.zero_add];exact (HS250.out).at 1 rfl j hv)) (fun hHeld=>?_)
     clear hK K
     generalize (w246.setCell ⟨w.heap.size, 1, none⟩ (.slice a6 l6.length c6)) = w247 at *
     try simp only [z0, z1, z2, z3]
     refine wpAnyH_done (by kernel_rfl) ?_ _
     clear hHeld
     generalize (if cap2 = p then a2 else Option.map (fun x=>Addr.add x (p * 4)) a2) = ap9 at *
     have HS251 : Hid (Hp w [.ob (w.heap.size) 25 (tbCells (.slice a t.held.length cap) (.slice a6 l6.length c6)), .ob b3 29 (grCells g), .ob b4 25 (tbCells (.slice none 0 0) (.slice none 0 0)), .rd R, .ob B84 29 (grCells wx), .sl ((.slice a6 l6.length c6)) 29 4 (l6.length) (grRow l6)] w247):=HS250.out.pull [0, 1, 2, 3, 4, 5] rfl (pull_nd HS250.out.nd [0, 1, 2, 3, 4, 5] rfl (by decide))
     clear HS250
     obtain ⟨R7, h7, hn7, hs7⟩:=Hp.ownrd2 (A:=[.ob (w.heap.size) 25 (tbCells (.slice a t.held.length cap) (.slice a6 l6.length c6)), .ob b3 29 (grCells g), .ob b4 25 (tbCells (.slice none 0 0) (.slice none 0 0)), .rd R, .ob B84 29 (grCells wx)]) HS251.out
     go_wp2_with fail
     go_meet
     exact ⟨a6, c6, R7, h7, hn7, hs7⟩
   ·have q0:=((HN0.out).drew).at 0 rfl 1 rfl
    go_simp
    clear q0
    have HS243 : Hid (Hp w [.ob (w.heap.size) 25 (tbCells (.slice a t.held.length cap) (.slice a2 t.wait.length cap2)), .ob b3 29 (grCells g), .ob b4 25 (tbCells (.slice none 0 0) (.slice none 0 0)), .rd R, .ob B84 29 (grCells wx), .sl ((.slice none 0 0)) 29 4 (0) ([])] (w222.drew)):=(HN0.out).drew
    refine hK.out _ _ ((fun j v hv=>by rw [Nat.zero_add];exact (HS243.out).at 1 rfl j hv)) (fun hHeld=>?_)
    clear hK K
    generalize w222.drew = w243 at *
    try simp only [z0, z1, z2, z3]
    refine tk 11 qRfLk9_20 (some 67) (v:=.slice (if cap2 = p then a2 else Option.map (fun x=>Addr.add x (p * 4)) a2) (t.wait.length - p) (cap2 - p)) (Or.inl ⟨by rfl, ?q932h⟩) hHeld ?q932r
    case q932h=>(intro _ h;clear h;go_simp;try with_reducible rfl)
    try simp only [z0, z1, z2, z3]
    refine wpAnyH_ready (rs:=[1, 6]) (by kernel_rfl) (by simp) ?_
    refine AllReadyH.cons (o:=qRfLk9_14) rfl (fun K hK=>?_) (AllReadyH.cons (o:=qRfLk9_15) rfl (fun K hK=>?_) (AllReadyH.nil))
    ·have q0:=(HS243.out).at 0 rfl 1 rfl
     go_simp
     clear q0
     have HS244:=HS243
     refine hK.out _ _ ((fun j v hv=>by rw [Nat.zero_add];exact (HS244.out).at 1 rfl j hv)) (fun hHeld=>?_)
     clear hK K
     try simp only [z0, z1, z2, z3]
     refine tk 3 qRfLk9_17 (some 59) (v:=.slice a2 p cap2) (Or.inl ⟨by rfl, ?q933h⟩) hHeld ?q933r
     case q933h=>(intro _ h;clear h;go_simp;try with_reducible rfl)
     try simp only [z0, z1, z2, z3]
     refine wpAnyH_ready (rs:=[4, 6]) (by kernel_rfl) (by simp) ?_
     refine AllReadyH.cons (o:=qRfLk9_18) rfl (fun K hK=>?_) (AllReadyH.cons (o:=qRfLk9_15) rfl (fun K hK=>?_) (AllReadyH.nil))
     ·rw [if_pos (by rfl)]
      refine wp_append_sl (HS244.out) (.const (.slice none 0 0)) (.tmp 59) 23 rfl 5 (v:=.slice none 0 0) (n:=0) (xs:=[]) rfl (xv:=.slice a2 p cap2) (m:=(t.wait.take p).length) (ys:=grRow (t.wait.take p)) (R:=R5) HT5.out (HI5.out _ ((HS244.out).reads 3 rfl)) HUX.out elem_gr rfl rfl (one_grs _) (by have:=HLn.out;rw [List.length_take];omega) ?_
      intro v5 w244 hs
      have hs2 : Hp w [.ob (w.heap.size) 25 (tbCells (.slice a t.held.length cap) (.slice a2 t.wait.length cap2)), .ob b3 29 (grCells g), .ob b4 25 (tbCells (.slice none 0 0) (.slice none 0 0)), .rd R, .ob B84 29 (grCells wx), .sl v5 29 4 ((t.wait.take p).length) (grRow (t.wait.take p))] w244:=by
       have h9:=hs
       simp only [Nat.zero_add, List.nil_append] at h9
       exact h9
      clear hs
      have HS245:=Lib.hid hs2
      refine hK.out _ _ ((fun j v hv=>by rw [Nat.zero_add];exact (HS245.out).at 1 rfl j hv)) (fun hHeld=>?_)
      clear hK K hs2
      try simp only [z0, z1, z2, z3]
      refine tn 6 qRfLk9_15 (fun K hK=>?_)
      rw [if_pos (by rfl)]
      refine wp_build_obs rfl elem_gr HUX.out [grCells g] (List.forall_mem_cons.2 ⟨rfl, (fun _ h=>absurd h List.not_mem_nil)⟩) (Nat.succ_pos _) (by simp only [List.length_cons, List.length_nil];omega) rfl (by simp only [List.map_toArray, List.map_cons, List.map_nil, List.zipIdx_cons, List.zipIdx_nil];exact rfl) ?_
      have HS246 : Hid (Hp w [.ob (w.heap.size) 25 (tbCells (.slice a t.held.length cap) (.slice a2 t.wait.length cap2)), .ob b3 29 (grCells g), .ob b4 25 (tbCells (.slice none 0 0) (.slice none 0 0)), .rd R, .ob B84 29 (grCells wx), .sl v5 29 4 ((t.wait.take p).length) (grRow (t.wait.take p)), .ob (w244.heap.size) 29 (([grCells g] : List (List Value)).flatMap id)] (w244.alloc (.cells (([grCells g] : List (List Value)).flatMap id).toArray 29))):=(HS245.out).put 29 (([grCells g] : List (List Value)).flatMap id)
      refine hK.out _ _ ((fun j v hv=>by rw [Nat.zero_add];exact (HS246.out).at 1 rfl j hv)) (fun hHeld=>?_)
      clear hK K
      generalize (w244.alloc (.cells (([grCells g] : List (List Value)).flatMap id).toArray 29)) = w245 at *
      generalize w244.heap.size = B243 at *
      try simp only [z0, z1, z2, z3]
      refine tn 7 qRfLk9_19 (fun K hK=>?_)
      rw [if_pos (by rfl)]
      refine wp_append_hp (HS246.out) (.tmp 60) (.tmp 62) 23 rfl 5 rfl 6 rfl HUX.out elem_gr 1 1 rfl rfl rfl (by intro u hu;simp only [List.flatMap_cons, List.flatMap_nil, List.append_nil, id] at hu;exact one_gr _ u hu) (by have:=HLn.out;rw [List.length_take];omega) ?_
      intro v246 w246 hs hnil
      have HS248:=Lib.hid hs
      refine hK.out _ _ ((fun j v hv=>by rw [Nat.zero_add];exact (HS248.out).at 1 rfl j hv)) (fun hHeld=>?_)
      clear hK K hs
      try simp only [z0, z1, z2, z3]
      refine tn 12 qRfLk9_21 (fun K hK=>?_)
      rw [if_pos (by rfl)]
      refine wp_append_sl (HS248.out) (.tmp 63) (.tmp 67) 23 rfl 5 (v:=v246) (n:=(t.wait.take p).length + 1) (xs:=(grRow (t.wait.take p)) ++ (([grCells g] : List (List Value)).flatMap id)) rfl (xv:=.slice (if cap2 = p then a2 else Option.map (fun x=>Addr.add x (p * 4)) a2) (t.wait.length - p) (cap2 - p)) (m:=(t.wait.drop p).length) (ys:=grRow (t.wait.drop p)) (R:=R6) HT6.out (HI6.out _ ((HS248.out).reads 3 rfl)) HUX.out elem_gr rfl rfl (one_grs _) (by have:=HLn.out;rw [List.length_take, List.length_drop];omega) ?_
      intro v6 w247 hs
      have hs2 : Hp w [.ob (w.heap.size) 25 (tbCells (.slice a t.held.length cap) (.slice a2 t.wait.length cap2)), .ob b3 29 (grCells g), .ob b4 25 (tbCells (.slice none 0 0) (.slice none 0 0)), .rd R, .ob B84 29 (grCells wx), .sl v6 29 4 (l6.length) (grRow l6), .ob B243 29 (([grCells g] : List (List Value)).flatMap id)] w247:=by
       rw [← HL6.out, grRow_append, grRow_append, grRow_one, List.length_append, List.length_append, ← List.append_assoc, ← Nat.add_assoc]
       exact hs
      clear hs
      have HS249:=Lib.hid hs2
      refine hK.out _ _ ((fun j v hv=>by rw [Nat.zero_add];exact (HS249.out).at 1 rfl j hv)) (fun hHeld=>?_)
      clear hK K hs2
      try simp only [z0, z1, z2, z3]
      refine tk 13 qRfLk9_22 (some 69) (v:=?q934v) (Or.inl ⟨by rfl, ?q934h⟩) hHeld ?q934r
      case q934h=>(intro _ h;clear h;go_simp;try with_reducible rfl)
      try simp only [z0, z1, z2, z3]
      refine tn 14 qRfLk9_23 (fun K hK=>?_)
      rw [if_pos (by rfl)]
      obtain ⟨a6, c6, rfl⟩:=own_slice ((HS249.out).own 5 rfl)
      have q5:=(HS249.out).at 0 rfl 1 rfl
      have f5:=(HS249.out).frozen 0 rfl 1
      go_simp
      clear q5 f5
      have HS250 : Hid (Hp w [.ob (w.heap.size) 25 (tbCells (.slice a t.held.length cap) (.slice a6 l6.length c6)), .ob b3 29 (grCells g), .ob b4 25 (tbCells (.slice none 0 0) (.slice none 0 0)), .rd R, .ob B84 29 (grCells wx), .sl ((.slice a6 l6.length c6)) 29 4 (l6.length) (grRow l6), .ob B243 29 (([grCells g] : List (List Value)).flatMap id)] (w247.setCell ⟨w.heap.size, 1, none⟩ (.slice a6 l6.length c6))):=(HS249.out).set 0 rfl 1 (.slice a6 l6.length c6)
      refine hK.out _ _ ((fun j v hv=>by rw [Nat.zero_add];exact (HS250.out).at 1 rfl j hv)) (fun hHeld=>?_)
      clear hK K
      generalize (w247.setCell ⟨w.heap.size, 1, none⟩ (.slice a6 l6.length c6)) = w248 at *
      try simp only [z0, z1, z2, z3]
      refine wpAnyH_done (by kernel_rfl) ?_ _
      clear hHeld
      generalize (if cap2 = p then a2 else Option.map (fun x=>Addr.add x (p * 4)) a2) = ap9 at *
      have HS251 : Hid (Hp w [.ob (w.heap.size) 25 (tbCells (.slice a t.held.length cap) (.slice a6 l6.length c6)), .ob b3 29 (grCells g), .ob b4 25 (tbCells (.slice none 0 0) (.slice none 0 0)), .rd R, .ob B84 29 (grCells wx), .sl ((.slice a6 l6.length c6)) 29 4 (l6.length) (grRow l6)] w248):=HS250.out.pull [0, 1, 2, 3, 4, 5] rfl (pull_nd HS250.out.nd [0, 1, 2, 3, 4, 5] rfl (by decide))
      clear HS250
      obtain ⟨R7, h7, hn7, hs7⟩:=Hp.ownrd2 (A:=[.ob (w.heap.size) 25 (tbCells (.slice a t.held.length cap) (.slice a6 l6.length c6)), .ob b3 29 (grCells g), .ob b4 25 (tbCells (.slice none 0 0) (.slice none 0 0)), .rd R, .ob B84 29 (grCells wx)]) HS251.out
      go_wp2_with fail
      go_meet
      exact ⟨a6, c6, R7, h7, hn7, hs7⟩
     ·rw [if_pos (by rfl)]
      refine wp_build_obs rfl elem_gr HUX.out [grCells g] (List.forall_mem_cons.2 ⟨rfl, (fun _ h=>absurd h List.not_mem_nil)⟩) (Nat.succ_pos _) (by simp only [List.length_cons, List.length_nil];omega) rfl (by simp only [List.map_toArray, List.map_cons, List.map_nil, List.zipIdx_cons, List.zipIdx_nil];exact rfl) ?_
      have HS245 : Hid (Hp w [.ob (w.heap.size) 25 (tbCells (.slice a t.held.length cap) (.slice a2 t.wait.length cap2)), .ob b3 29 (grCells g), .ob b4 25 (tbCells (.slice none 0 0) (.slice none 0 0)), .rd R, .ob B84 29 (grCells wx), .sl ((.slice none 0 0)) 29 4 (0) ([]), .ob (w243.heap.size) 29 (([grCells g] : List (List Value)).flatMap id)] (w243.alloc (.cells (([grCells g] : List (List Value)).flatMap id).toArray 29))):=(HS244.out).put 29 (([grCells g] : List (List Value)).flatMap id)
      refine hK.out _ _ ((fun j v hv=>by rw [Nat.zero_add];exact (HS245.out).at 1 rfl j hv)) (fun hHeld=>?_)
      clear hK K
      generalize (w243.alloc (.cells (([grCells g] : List (List Value)).flatMap id).toArray 29)) = w244 at *
      generalize w243.heap.size = B243 at *
      try simp only [z0, z1, z2, z3]
      refine tn 4 qRfLk9_18 (fun K hK=>?_)
      rw [if_pos (by rfl)]
      refine wp_append_sl (HS245.out) (.const (.slice none 0 0)) (.tmp 59) 23 rfl 5 (v:=.slice none 0 0) (n:=0) (xs:=[]) rfl (xv:=.slice a2 p cap2) (m:=(t.wait.take p).length) (ys:=grRow (t.wait.take p)) (R:=R5) HT5.out (HI5.out _ ((HS245.out).reads 3 rfl)) HUX.out elem_gr rfl rfl (one_grs _) (by have:=HLn.out;rw [List.length_take];omega) ?_
      intro v5 w245 hs
      have hs2 : Hp w [.ob (w.heap.size) 25 (tbCells (.slice a t.held.length cap) (.slice a2 t.wait.length cap2)), .ob b3 29 (grCells g), .ob b4 25 (tbCells (.slice none 0 0) (.slice none 0 0)), .rd R, .ob B84 29 (grCells wx), .sl v5 29 4 ((t.wait.take p).length) (grRow (t.wait.take p)), .ob B243 29 (([grCells g] : List (List Value)).flatMap id)] w245:=by
       have h9:=hs
       simp only [Nat.zero_add, List.nil_append] at h9
       exact h9
      clear hs
      have HS246:=Lib.hid hs2
      refine hK.out _ _ ((fun j v hv=>by rw [Nat.zero_add];exact (HS246.out).at 1 rfl j hv)) (fun hHeld=>?_)
      clear hK K hs2
      try simp only [z0, z1, z2, z3]
      refine tn 7 qRfLk9_19 (fun K hK=>?_)
      rw [if_pos (by rfl)]
      refine wp_append_hp (HS246.out) (.tmp 60) (.tmp 62) 23 rfl 5 rfl 6 rfl HUX.out elem_gr 1 1 rfl rfl rfl (by intro u hu;simp only [List.flatMap_cons, List.flatMap_nil, List.append_nil, id] at hu;exact one_gr _ u hu) (by have:=HLn.out;rw [List.length_take];omega) ?_
      intro v246 w246 hs hnil
      have HS248:=Lib.hid hs
      refine hK.out _ _ ((fun j v hv=>by rw [Nat.zero_add];exact (HS248.out).at 1 rfl j hv)) (fun hHeld=>?_)
      clear hK K hs
      try simp only [z0, z1, z2, z3]
      refine tn 12 qRfLk9_21 (fun K hK=>?_)
      rw [if_pos (by rfl)]
      refine wp_append_sl (HS248.out) (.tmp 63) (.tmp 67) 23 rfl 5 (v:=v246) (n:=(t.wait.take p).length + 1) (xs:=(grRow (t.wait.take p)) ++ (([grCells g] : List (List Value)).flatMap id)) rfl (xv:=.slice (if cap2 = p then a2 else Option.map (fun x=>Addr.add x (p * 4)) a2) (t.wait.length - p) (cap2 - p)) (m:=(t.wait.drop p).length) (ys:=grRow (t.wait.drop p)) (R:=R6) HT6.out (HI6.out _ ((HS248.out).reads 3 rfl)) HUX.out elem_gr rfl rfl (one_grs _) (by have:=HLn.out;rw [List.length_take, List.length_drop];omega) ?_
      intro v6 w247 hs
      have hs2 : Hp w [.ob (w.heap.size) 25 (tbCells (.slice a t.held.length cap) (.slice a2 t.wait.length cap2)), .ob b3 29 (grCells g), .ob b4 25 (tbCells (.slice none 0 0) (.slice none 0 0)), .rd R, .ob B84 29 (grCells wx), .sl v6 29 4 (l6.length) (grRow l6), .ob B243 29 (([grCells g] : List (List Value)).flatMap id)] w247:=by
       rw [← HL6.out, grRow_append, grRow_append, grRow_one, List.length_append, List.length_append, ← List.append_assoc, ← Nat.add_assoc]
       exact hs
      clear hs
      have HS249:=Lib.hid hs2
      refine hK.out _ _ ((fun j v hv=>by rw [Nat.zero_add];exact (HS249.out).at 1 rfl j hv)) (fun hHeld=>?_)
      clear hK K hs2
      try simp only [z0, z1, z2, z3]
      refine tk 13 qRfLk9_22 (some 69) (v:=?q935v) (Or.inl ⟨by rfl, ?q935h⟩) hHeld ?q935r
      case q935h=>(intro _ h;clear h;go_simp;try with_reducible rfl)
      try simp only [z0, z1, z2, z3]
      refine tn 14 qRfLk9_23 (fun K hK=>?_)
      rw [if_pos (by rfl)]
      obtain ⟨a6, c6, rfl⟩:=own_slice ((HS249.out).own 5 rfl)
      have q5:=(HS249.out).at 0 rfl 1 rfl
      have f5:=(HS249.out).frozen 0 rfl 1
      go_simp
      clear q5 f5
      have HS250 : Hid (Hp w [.ob (w.heap.size) 25 (tbCells (.slice a t.held.length cap) (.slice a6 l6.length c6)), .ob b3 29 (grCells g), .ob b4 25 (tbCells (.slice none 0 0) (.slice none 0 0)), .rd R, .ob B84 29 (grCells wx), .sl ((.slice a6 l6.length c6)) 29 4 (l6.length) (grRow l6), .ob B243 29 (([grCells g] : List (List Value)).flatMap id)] (w247.setCell ⟨w.heap.size, 1, none⟩ (.slice a6 l6.length c6))):=(HS249.out).set 0 rfl 1 (.slice a6 l6.length c6)
      refine hK.out _ _ ((fun j v hv=>by rw [Nat.zero_add];exact (HS250.out).at 1 rfl j hv)) (fun hHeld=>?_)
      clear hK K
      generalize (w247.setCell ⟨w.heap.size, 1, none⟩ (.slice a6 l6.length c6)) = w248 at *
      try simp only [z0, z1, z2, z3]
      refine wpAnyH_done (by kernel_rfl) ?_ _
      clear hHeld
      generalize (if cap2 = p then a2 else Option.map (fun x=>Addr.add x (p * 4)) a2) = ap9 at *
      have HS251 : Hid (Hp w [.ob (w.heap.size) 25 (tbCells (.slice a t.held.length cap) (.slice a6 l6.length c6)), .ob b3 29 (grCells g), .ob b4 25 (tbCells (.slice none 0 0) (.slice none 0 0)), .rd R, .ob B84 29 (grCells wx), .sl ((.slice a6 l6.length c6)) 29 4 (l6.length) (grRow l6)] w248):=HS250.out.pull [0, 1, 2, 3, 4, 5] rfl (pull_nd HS250.out.nd [0, 1, 2, 3, 4, 5] rfl (by decide))
      clear HS250
      obtain ⟨R7, h7, hn7, hs7⟩:=Hp.ownrd2 (A:=[.ob (w.heap.size) 25 (tbCells (.slice a t.held.length cap) (.slice a6 l6.length c6)), .ob b3 29 (grCells g), .ob b4 25 (tbCells (.slice none 0 0) (.slice none 0 0)), .rd R, .ob B84 29 (grCells wx)]) HS251.out
      go_wp2_with fail
      go_meet
      exact ⟨a6, c6, R7, h7, hn7, hs7⟩
    ·rw [if_pos (by rfl)]
     refine wp_build_obs rfl elem_gr HUX.out [grCells g] (List.forall_mem_cons.2 ⟨rfl, (fun _ h=>absurd h List.not_mem_nil)⟩) (Nat.succ_pos _) (by simp only [List.length_cons, List.length_nil];omega) rfl (by simp only [List.map_toArray, List.map_cons, List.map_nil, List.zipIdx_cons, List.zipIdx_nil];exact rfl) ?_
     have HS244 : Hid (Hp w [.ob (w.heap.size) 25 (tbCells (.slice a t.held.length cap) (.slice a2 t.wait.length cap2)), .ob b3 29 (grCells g), .ob b4 25 (tbCells (.slice none 0 0) (.slice none 0 0)), .rd R, .ob B84 29 (grCells wx), .sl ((.slice none 0 0)) 29 4 (0) ([]), .ob (w243.heap.size) 29 (([grCells g] : List (List Value)).flatMap id)] (w243.alloc (.cells (([grCells g] : List (List Value)).flatMap id).toArray 29))):=(HS243.out).put 29 (([grCells g] : List (List Value)).flatMap id)
     refine hK.out _ _ ((fun j v hv=>by rw [Nat.zero_add];exact (HS244.out).at 1 rfl j hv)) (fun hHeld=>?_)
     clear hK K
     generalize (w243.alloc (.cells (([grCells g] : List (List Value)).flatMap id).toArray 29)) = w244 at *
     generalize w243.heap.size = B243 at *
     try simp only [z0, z1, z2, z3]
     refine tn 1 qRfLk9_14 (fun K hK=>?_)
     have q0:=(HS244.out).at 0 rfl 1 rfl
     go_simp
     clear q0
     have HS245:=HS244
     refine hK.out _ _ ((fun j v hv=>by rw [Nat.zero_add];exact (HS245.out).at 1 rfl j hv)) (fun hHeld=>?_)
     clear hK K
     try simp only [z0, z1, z2, z3]
     refine tk 3 qRfLk9_17 (some 59) (v:=.slice a2 p cap2) (Or.inl ⟨by rfl, ?q936h⟩) hHeld ?q936r
     case q936h=>(intro _ h;clear h;go_simp;try with_reducible rfl)
     try simp only [z0, z1, z2, z3]
     refine tn 4 qRfLk9_18 (fun K hK=>?_)
     rw [if_pos (by rfl)]
     refine wp_append_sl (HS245.out) (.const (.slice none 0 0)) (.tmp 59) 23 rfl 5 (v:=.slice none 0 0) (n:=0) (xs:=[]) rfl (xv:=.slice a2 p cap2) (m:=(t.wait.take p).length) (ys:=grRow (t.wait.take p)) (R:=R5) HT5.out (HI5.out _ ((HS245.out).reads 3 rfl)) HUX.out elem_gr rfl rfl (one_grs _) (by have:=HLn.out;rw [List.length_take];omega) ?_
     intro v5 w245 hs
     have hs2 : Hp w [.ob (w.heap.size) 25 (tbCells (.slice a t.held.length cap) (.slice a2 t.wait.length cap2)), .ob b3 29 (grCells g), .ob b4 25 (tbCells (.slice none 0 0) (.slice none 0 0)), .rd R, .ob B84 29 (grCells wx), .sl v5 29 4 ((t.wait.take p).length) (grRow (t.wait.take p)), .ob B243 29 (([grCells g] : List (List Value)).flatMap id)] w245:=by
      have h9:=hs
      simp only [Nat.zero_add, List.nil_append] at h9
      exact h9
     clear hs
     have HS246:=Lib.hid hs2
     refine hK.out _ _ ((fun j v hv=>by rw [Nat.zero_add];exact (HS246.out).at 1 rfl j hv)) (fun hHeld=>?_)
     clear hK K hs2
     try simp only [z0, z1, z2, z3]
     refine tn 7 qRfLk9_19 (fun K hK=>?_)
     rw [if_pos (by rfl)]
     refine wp_append_hp (HS246.out) (.tmp 60) (.tmp 62) 23 rfl 5 rfl 6 rfl HUX.out elem_gr 1 1 rfl rfl rfl (by intro u hu;simp only [List.flatMap_cons, List.flatMap_nil, List.append_nil, id] at hu;exact one_gr _ u hu) (by have:=HLn.out;rw [List.length_take];omega) ?_
     intro v246 w246 hs hnil
     have HS248:=Lib.hid hs
     refine hK.out _ _ ((fun j v hv=>by rw [Nat.zero_add];exact (HS248.out).at 1 rfl j hv)) (fun hHeld=>?_)
     clear hK K hs
     try simp only [z0, z1, z2, z3]
     refine tn 12 qRfLk9_21 (fun K hK=>?_)
     rw [if_pos (by rfl)]
     refine wp_append_sl (HS248.out) (.tmp 63) (.tmp 67) 23 rfl 5 (v:=v246) (n:=(t.wait.take p).length + 1) (xs:=(grRow (t.wait.take p)) ++ (([grCells g] : List (List Value)).flatMap id)) rfl (xv:=.slice (if cap2 = p then a2 else Option.map (fun x=>Addr.add x (p * 4)) a2) (t.wait.length - p) (cap2 - p)) (m:=(t.wait.drop p).length) (ys:=grRow (t.wait.drop p)) (R:=R6) HT6.out (HI6.out _ ((HS248.out).reads 3 rfl)) HUX.out elem_gr rfl rfl (one_grs _) (by have:=HLn.out;rw [List.length_take, List.length_drop];omega) ?_
     intro v6 w247 hs
     have hs2 : Hp w [.ob (w.heap.size) 25 (tbCells (.slice a t.held.length cap) (.slice a2 t.wait.length cap2)), .ob b3 29 (grCells g), .ob b4 25 (tbCells (.slice none 0 0) (.slice none 0 0)), .rd R, .ob B84 29 (grCells wx), .sl v6 29 4 (l6.length) (grRow l6), .ob B243 29 (([grCells g] : List (List Value)).flatMap id)] w247:=by
      rw [← HL6.out, grRow_append, grRow_append, grRow_one, List.length_append, List.length_append, ← List.append_assoc, ← Nat.add_assoc]
      exact hs
     clear hs
     have HS249:=Lib.hid hs2
     refine hK.out _ _ ((fun j v hv=>by rw [Nat.zero_add];exact (HS249.out).at 1 rfl j hv)) (fun hHeld=>?_)
     clear hK K hs2
     try simp only [z0, z1, z2, z3]
     refine tk 13 qRfLk9_22 (some 69) (v:=?q937v) (Or.inl ⟨by rfl, ?q937h⟩) hHeld ?q937r
     case q937h=>(intro _ h;clear h;go_simp;try with_reducible rfl)
     try simp only [z0, z1, z2, z3]
     refine tn 14 qRfLk9_23 (fun K hK=>?_)
     rw [if_pos (by rfl)]
     obtain ⟨a6, c6, rfl⟩:=own_slice ((HS249.out).own 5 rfl)
     have q5:=(HS249.out).at 0 rfl 1 rfl
     have f5:=(HS249.out).frozen 0 rfl 1
     go_simp
     clear q5 f5
     have HS250 : Hid (Hp w [.ob (w.heap.size) 25 (tbCells (.slice a t.held.length cap) (.slice a6 l6.length c6)), .ob b3 29 (grCells g), .ob b4 25 (tbCells (.slice none 0 0) (.slice none 0 0)), .rd R, .ob B84 29 (grCells wx), .sl ((.slice a6 l6.length c6)) 29 4 (l6.length) (grRow l6), .ob B243 29 (([grCells g] : List (List Value)).flatMap id)] (w247.setCell ⟨w.heap.size, 1, none⟩ (.slice a6 l6.length c6))):=(HS249.out).set 0 rfl 1 (.slice a6 l6.length c6)
     refine hK.out _ _ ((fun j v hv=>by rw [Nat.zero_add];exact (HS250.out).at 1 rfl j hv)) (fun hHeld=>?_)
     clear hK K
     generalize (w247.setCell ⟨w.heap.size, 1, none⟩ (.slice a6 l6.length c6)) = w248 at *
     try simp only [z0, z1, z2, z3]
     refine wpAnyH_done (by kernel_rfl) ?_ _
     clear hHeld
     generalize (if cap2 = p then a2 else Option.map (fun x=>Addr.add x (p * 4)) a2) = ap9 at *
     have HS251 : Hid (Hp w [.ob (w.heap.size) 25 (tbCells (.slice a t.held.length cap) (.slice a6 l6.length c6)), .ob b3 29 (grCells g), .ob b4 25 (tbCells (.slice none 0 0) (.slice none 0 0)), .rd R, .ob B84 29 (grCells wx), .sl ((.slice a6 l6.length c6)) 29 4 (l6.length) (grRow l6)] w248):=HS250.out.pull [0, 1, 2, 3, 4, 5] rfl (pull_nd HS250.out.nd [0, 1, 2, 3, 4, 5] rfl (by decide))
     clear HS250
     obtain ⟨R7, h7, hn7, hs7⟩:=Hp.ownrd2 (A:=[.ob (w.heap.size) 25 (tbCells (.slice a t.held.length cap) (.slice a6 l6.length c6)), .ob b3 29 (grCells g), .ob b4 25 (tbCells (.slice none 0 0) (.slice none 0 0)), .rd R, .ob B84 29 (grCells wx)]) HS251.out
     go_wp2_with fail
     go_meet
     exact ⟨a6, c6, R7, h7, hn7, hs7⟩
  case rest =>
   obtain ⟨a6, c6, R7, h7, hn7, hs7⟩:=hcut
   have HR7:=Lib.hid h7
   have HN7:=Lib.hid hn7
   have HS7:=Lib.hid hs7
   clear h7 hn7 hs7 HN0 HT5 HT6 HI5 HI6
   generalize wc = w700 at *
   have hi9 : TbIn ⟨t.held, l6⟩:=by have:=HIn.out;rwa [HAe.out] at this
   have HE2 : Hid (rq = (settleR ⟨t.held, l6⟩, decide (g.mode ≤ modeG (settleR ⟨t.held, l6⟩).held g), 0)):=Lib.hid (by rw [HE.out, HAe.out])
   have HIn2:=Lib.hid hi9
   have HFw : Hid (t.held.length + l6.length ≤ 2000):=Lib.hid (by have h1:=congrArg List.length HL6.out;have h2:=HLn.out;simp only [List.length_append, List.length_take, List.length_drop, List.length_singleton] at h1;omega)
   have HSe : Hid (∀ W, RdIn W (R ++ R7) → Calls Try.prog 52 #[.agg (tbCells (.slice a t.held.length cap) (.slice a6 l6.length c6)).toArray] W (TbPost W (R ++ R7) (settleR ⟨t.held, l6⟩))):=fun W h2=>rsettle_any W ⟨SlRd.mono HT.out.1 (fun r hr=>by simp [hr]), SlRd.mono HR7.out (fun r hr=>by simp [hr])⟩ h2 HIn2.out HFw.out
   have hi8:=settle_in HIn2.out
   have hl8:=settle_len HIn2.out
   have HGs:=Lib.hid (hi8.good (by have:=HFw.out;simp only at hl8;omega))
   generalize settleR ⟨t.held, l6⟩ = u at *
   clear HE HAe hi9 hi8 hl8
   have b0 : w700.cell? ⟨w.heap.size, 0, none⟩ = some (.slice a t.held.length cap):=HS7.out.at 0 rfl 0 rfl
   have b1 : w700.cell? ⟨w.heap.size, 1, none⟩ = some (.slice a6 l6.length c6):=HS7.out.at 0 rfl 1 rfl
   go_wp2_with fail
   refine (HSe.out _ (RdIn.append (HS7.out.reads 3 rfl) (HS7.out.reads 5 rfl))).mono ?_
   rintro e w701 ⟨h9, v9, R9, rfl, hrd9, hin9, hnew9, hb⟩
   have hold:=HS7.out.old.size
   have hnw : ∀ r ∈ R9, w.heap.size ≤ r.1 ∨ r.1 ∈ R.map (·.1):=fun r hr=>by
    rcases hnew9 r hr with h | h
    ·exact .inl (Nat.le_trans hold h)
    ·obtain ⟨q, hq, hqe⟩:=List.mem_map.1 h
     rw [← hqe]
     rcases List.mem_append.1 hq with hq | hq
     ·exact .inr (List.mem_map.2 ⟨q, hq, rfl⟩)
     ·exact .inl (HN7.out q hq)
   have hs9:=HS7.out.addrd hb R9 hin9 (fun r hr=>(hnew9 r hr).elim .inl (fun h=>.inr (by obtain ⟨q, hq, hqe⟩:=List.mem_map.1 h;rcases List.mem_append.1 hq with hq | hq;exact ⟨.rd R, List.mem_of_getElem? (i:=3) rfl, List.mem_map.2 ⟨q, hq, hqe⟩⟩;exact ⟨.rd R7, List.mem_of_getElem? (i:=5) rfl, List.mem_map.2 ⟨q, hq, hqe⟩⟩)))
   obtain ⟨a9, c9, rfl, _, _⟩:=hrd9.1.shape
   obtain ⟨d9, e9, rfl, _, _⟩:=hrd9.2.shape
   have H9:=Lib.hid hrd9
   have N9:=Lib.hid hnw
   have HS9:=Lib.hid hs9
   clear hs9 hin9 hnew9 hb hrd9 hnw hold b0 b1 HSe HS7
   go_upto_region 17 with (first | ((with_reducible refine wpList_store_ob 25 (.tmp 2) (w.heap.size) (tbCells (.slice a9 u.held.length c9) (.slice d9 u.wait.length e9)) (tbCells (.slice a t.held.length cap) (.slice a6 l6.length c6)) 25 ?_ ?_ ?_ ?_ ?_ ?_ ?_);(exact rfl);(exact rfl);(exact (HS9.out).get 0 rfl);(exact info_tb);(exact rfl);(exact (oneCell_tb _ _ _ _ _ _));skip))
   have HS731 : Hid (Hp w [.ob (w.heap.size) 25 (tbCells (.slice a9 u.held.length c9) (.slice d9 u.wait.length e9)), .ob b3 29 (grCells g), .ob b4 25 (tbCells (.slice none 0 0) (.slice none 0 0)), .rd R, .ob B84 29 (grCells wx), .rd R7, .rd R9] (w701.setRow (w.heap.size) (tbCells (.slice a9 u.held.length c9) (.slice d9 u.wait.length e9)).toArray)):=(HS9.out).row 0 rfl (tbCells (.slice a9 u.held.length c9) (.slice d9 u.wait.length e9))
   clear HS9
   generalize (w701.setRow (w.heap.size) (tbCells (.slice a9 u.held.length c9) (.slice d9 u.wait.length e9)).toArray) = w731 at *
   have HMu : Hid (∀ W, RdIn W R9 → Calls Try.prog 51 #[.agg (tbCells (.slice a9 u.held.length c9) (.slice d9 u.wait.length e9)).toArray, .int .i64 g.tx, .agg (lkCells g.lock).toArray] W fun e w'=>e = .returned (.int .i64 (modeG u.held g)) ∧ Below W.heap.size W w'):=fun W h2=>rmode_any g.tx g.lock W H9.out h2 HGs.out HK.out.lock
   generalize modeG u.held g = mu at *
   obtain ⟨q, hq⟩ : ∃ q, decide (g.mode ≤ mu) = q:=⟨_, rfl⟩
   rw [hq] at HE2
   refine wp_region_held_drew (S:=fun w'=>w'.rangeAt w.heap.size 0 (tbCells (.slice a9 u.held.length c9) (.slice d9 u.wait.length e9)) ∧ w'.rangeAt b3 0 (grCells g)) (by kernel_rfl) (⟨(fun j v hv=>by rw [Nat.zero_add];exact ((HS731.out).drew).at 0 rfl j hv), (fun j v hv=>by rw [Nat.zero_add];exact ((HS731.out).drew).at 1 rfl j hv)⟩) (fun hHeld=>?_)
   refine tk 0 qRfLk9_24 (some 72) (yieldsIf_load_mid (by rfl) 25 (.tmp 2) rfl w.heap.size (0) rfl (tbCells (.slice a9 u.held.length c9) (.slice d9 u.wait.length e9)) _ (fun _ h=>h.1) HUT.out rfl (info_tb)) hHeld ?_
   try simp only [z0, z1, z2, z3]
   refine tk 1 qRfLk9_25 (some 73) (yieldsIf_load_mid (by rfl) 25 (.tmp 2) rfl w.heap.size (0) rfl (tbCells (.slice a9 u.held.length c9) (.slice d9 u.wait.length e9)) _ (fun _ h=>h.1) HUT.out rfl (info_tb)) hHeld ?_
   try simp only [z0, z1, z2, z3]
   refine tk 2 qRfLk9_26 (some 74) (v:=?q1103v) (Or.inl ⟨by rfl, ?q1103h⟩) hHeld ?q1103r
   case q1103h=>(intro _ h;clear h;go_simp;try with_reducible rfl)
   try simp only [z0, z1, z2, z3]
   refine tk 3 qRfLk9_27 (some 75) (v:=.int .i64 g.tx) (Or.inl ⟨by rfl, ?q1104h⟩) hHeld ?q1104r
   case q1104h=>(intro wq hSw;have lq:=(hSw.2) 0 (.int .i64 g.tx) rfl;simp only [Nat.zero_add] at lq;clear hSw;go_simp;try with_reducible rfl)
   try simp only [z0, z1, z2, z3]
   refine tk 4 qRfLk9_28 (some 76) (v:=?q1105v) (Or.inl ⟨by rfl, ?q1105h⟩) hHeld ?q1105r
   case q1105h=>(intro _ h;clear h;go_simp;try with_reducible rfl)
   try simp only [z0, z1, z2, z3]
   refine tk 5 qRfLk9_29 (some 77) (yieldsIf_load_mid (by rfl) 27 (.tmp 76) rfl b3 (1) rfl (lkCells g.lock) _ (fun _ h=>range_part (h.2) (mid_lk g)) HUK.out rfl (info_lk)) hHeld ?_
   try simp only [z0, z1, z2, z3]
   refine tk 7 qRfLk9_30 (some 79) (v:=?q1107v) (Or.inl ⟨by rfl, ?q1107h⟩) hHeld ?q1107r
   case q1107h=>(intro _ h;clear h;go_simp;try with_reducible rfl)
   try simp only [z0, z1, z2, z3]
   refine tk 8 qRfLk9_31 (some 80) (v:=.int .i64 g.mode) (Or.inl ⟨by rfl, ?q1108h⟩) hHeld ?q1108r
   case q1108h=>(intro wq hSw;have lq:=(hSw.2) 3 (.int .i64 g.mode) rfl;simp only [Nat.zero_add] at lq;clear hSw;go_simp;try with_reducible rfl)
   try simp only [z0, z1, z2, z3]
   refine tn 6 qRfLk9_32 (fun K hK=>?_)
   go_simp
   go_wp2_with (go_at_call 51;refine (HMu.out _ (((HS731.out).drew).reads 6 rfl)).mono ?_;rintro e w757 ⟨rfl, hb⟩)
   have HS757:=Lib.hid (((HS731.out).drew).calls hb)
   refine hK.out _ _ (⟨(fun j v hv=>by rw [Nat.zero_add];exact (HS757.out).at 0 rfl j hv), (fun j v hv=>by rw [Nat.zero_add];exact (HS757.out).at 1 rfl j hv)⟩) (fun hHeld=>?_)
   clear hK K hb
   try simp only [z0, z1, z2, z3]
   refine tk 9 qRfLk9_33 (some 81) (v:=.bool q) (Or.inl ⟨by rfl, ?q1109h⟩) hHeld ?q1109r
   case q1109h=>(intro _ h;clear h;go_simp;try with_reducible rfl)
   try simp only [z0, z1, z2, z3]
   refine tn 10 qRfLk9_34 (fun K hK=>?_)
   rw [if_pos (by rfl)]
   refine wp_store_ob 25 (.tmp 4) (.tmp 72) b4 (tbCells (.slice a9 u.held.length c9) (.slice d9 u.wait.length e9)) (tbCells (.slice none 0 0) (.slice none 0 0)) 25 rfl rfl rfl rfl ((HS757.out).get 2 rfl) (info_tb) (rfl) ((oneCell_tb _ _ _ _ _ _)) ?_
   have HS758 : Hid (Hp w [.ob (w.heap.size) 25 (tbCells (.slice a9 u.held.length c9) (.slice d9 u.wait.length e9)), .ob b3 29 (grCells g), .ob b4 25 (tbCells (.slice a9 u.held.length c9) (.slice d9 u.wait.length e9)), .rd R, .ob B84 29 (grCells wx), .rd R7, .rd R9] (w757.setRow b4 (tbCells (.slice a9 u.held.length c9) (.slice d9 u.wait.length e9)).toArray)):=(HS757.out).row 2 rfl (tbCells (.slice a9 u.held.length c9) (.slice d9 u.wait.length e9))
   refine hK.out _ _ (⟨(fun j v hv=>by rw [Nat.zero_add];exact (HS758.out).at 0 rfl j hv), (fun j v hv=>by rw [Nat.zero_add];exact (HS758.out).at 1 rfl j hv)⟩) (fun hHeld=>?_)
   clear hK K
   generalize (w757.setRow b4 (tbCells (.slice a9 u.held.length c9) (.slice d9 u.wait.length e9)).toArray) = w758 at *
   try simp only [z0, z1, z2, z3]
   refine tk 11 qRfLk9_35 (some 5) (v:=?q1110v) (Or.inl ⟨by rfl, ?q1110h⟩) hHeld ?q1110r
   case q1110h=>(intro _ h;clear h;go_simp;try with_reducible rfl)
   try simp only [z0, z1, z2, z3]
   refine tk 12 qRfLk9_36 (some 6) (v:=?q1111v) (Or.inl ⟨by rfl, ?q1111h⟩) hHeld ?q1111r
   case q1111h=>(intro _ h;clear h;go_simp;try with_reducible rfl)
   try simp only [z0, z1, z2, z3]
   refine wpAnyH_done (by kernel_rfl) ?_ _
   clear hHeld
   go_wp2_with fail
   refine bodyPost_ret (results_ob_tmp2 Try.results28 _ _ b4 (tbCells (.slice a9 u.held.length c9) (.slice d9 u.wait.length e9)) 25 _ rfl ((HS758.out).get 2 rfl) HUT.out rfl info_tb) rfl ?_
   rw [HE2.out]
   exact ⟨_, _, R9, rfl, H9.out, (HS758.out).reads 6 rfl, N9.out, (HS758.out).old⟩
end Go.Proofs.Ytooaldglgkjjgaa
/- the program's small functions on grants: comparing, the order, conflicts, validity, what finds grants (locks) -/
namespace Go.Proofs.Ytooaldglgkjjgaa
open Go.RowKit
set_option maxRecDepth 20000
set_option linter.unusedSimpArgs false
set_option linter.unusedVariables false

theorem isNaN_any (x : Int) (W : World) : Calls Try.prog 100 #[.int .i64 x] W fun e w'=>e = .returned (.bool false) ∧ w' = W:=by
 have h : (x != x) = false:=by simp
 go_enter Try.func100, Try.ntmps100
 go_wp2
 go_ret
 exact ⟨rfl, rfl⟩
def cmpI (x y : Int) : Int:=if x < y then -1 else if y < x then 1 else 0
theorem cmpI_lt {x y : Int} (h : x < y) : cmpI x y = -1:=if_pos h
theorem cmpI_gt {x y : Int} (h : y < x) : cmpI x y = 1:=by unfold cmpI;rw [if_neg (by omega), if_pos h]
theorem cmpI_eq {x y : Int} (h : x = y) : cmpI x y = 0:=by unfold cmpI;rw [if_neg (by omega), if_neg (by omega)]
theorem cmpI_zero {x y : Int} : cmpI x y = 0 ↔ x = y:=by unfold cmpI;split <;> (try split) <;> omega
theorem cmpI_neg {x y : Int} : cmpI x y < 0 ↔ x < y:=by unfold cmpI;split <;> (try split) <;> omega
set_option maxHeartbeats 4000000 in
theorem compare_any (x y : Int) (W : World) : Calls Try.prog 94 #[.int .i64 x, .int .i64 y] W fun e w'=>e = .returned (.int .i64 (cmpI x y)) ∧ w' = W:=by
 have hn:=fun x=>isNaN_any x W
 rcases Int.lt_trichotomy x y with h | h | h
 ·have d1 : decide (x < y) = true:=decide_eq_true h
  have HV:=Lib.hid (cmpI_lt h)
  go_enter Try.func94, Try.ntmps94
  go_wp2_with (go_at_call 100;refine (hn _).mono ?_;rintro e w2 ⟨rfl, rfl⟩)
  go_ret
  exact ⟨by rw [HV.out];rfl, rfl⟩
 ·have d1 : ¬ x < y:=by omega
  have d2 : ¬ y < x:=by omega
  have HV:=Lib.hid (cmpI_eq h)
  clear h
  go_enter Try.func94, Try.ntmps94
  go_wp2_with (go_at_call 100;refine (hn _).mono ?_;rintro e w2 ⟨rfl, rfl⟩)
  go_ret
  exact ⟨by rw [HV.out];rfl, rfl⟩
 ·have d1 : ¬ x < y:=by omega
  have HV:=Lib.hid (cmpI_gt h)
  go_enter Try.func94, Try.ntmps94
  go_wp2_with (go_at_call 100;refine (hn _).mono ?_;rintro e w2 ⟨rfl, rfl⟩)
  go_ret
  exact ⟨by rw [HV.out];rfl, rfl⟩
def orI (x y z : Int) : Int:=if x = 0 then (if y = 0 then z else y) else x
set_option maxHeartbeats 4000000 in
theorem or3_any (x y z : Int) (b : Nat) (w : World) (h0 : w.cell? ⟨b, 0, none⟩ = some (.int .i64 x)) (h1 : w.cell? ⟨b, 1, none⟩ = some (.int .i64 y)) (h2 : w.cell? ⟨b, 2, none⟩ = some (.int .i64 z)) :
  Calls Try.prog 93 #[.slice (some ⟨b, 0, none⟩) 3 3] w fun e w'=>e = .returned (.int .i64 (orI x y z)) ∧ w' = w:=by
 have HC : Hid (∀ j : Nat, j < 3 → ∃ u, w.cell? ⟨b, j, none⟩ = some (.int .i64 u) ∧ (([x, y, z] : List Int)[j]? = some u)):=fun j hj=>by
  match j with
  | 0=>exact ⟨x, h0, rfl⟩
  | 1=>exact ⟨y, h1, rfl⟩
  | 2=>exact ⟨z, h2, rfl⟩
  | j + 3=>omega
 have HO : Hid (∀ (j : Nat) (u : Int), ([x, y, z] : List Int)[j]? = some u → (∀ k v, k < j → ([x, y, z] : List Int)[k]? = some v → v = 0) → ¬ u = 0 → orI x y z = u):=fun j u hu hb hn=>by
  match j with
  | 0 =>
   obtain rfl : x = u:=by simpa using hu
   unfold orI;rw [if_neg hn]
  | 1 =>
   obtain rfl : y = u:=by simpa using hu
   unfold orI;rw [if_pos (hb 0 x (by omega) rfl), if_neg hn]
  | 2 =>
   obtain rfl : z = u:=by simpa using hu
   unfold orI;rw [if_pos (hb 0 x (by omega) rfl), if_pos (hb 1 y (by omega) rfl)]
  | j + 3=>simp at hu
 have HZ : Hid ((∀ k v, k < 3 → ([x, y, z] : List Int)[k]? = some v → v = 0) → orI x y z = 0):=fun hb=>by
  unfold orI;rw [if_pos (hb 0 x (by omega) rfl), if_pos (hb 1 y (by omega) rfl)];exact hb 2 z (by omega) rfl
 clear h0 h1 h2
 generalize orI x y z = o at *
 generalize ([x, y, z] : List Int) = l at *
 go_enter Try.func93, Try.ntmps93
 go_wp2_with fail
 go_loopw [8] (fun i wr=>∃ j : Nat, j ≤ 3 ∧ i = .int .i64 j ∧ (∀ k v, k < j → l[k]? = some v → v = 0) ∧ wr = w) (fun i _=>3 - (intOf i).toNat)
 case atStart=>exact ⟨0, by omega, rfl, fun k v h=>absurd h (by omega), rfl⟩
 case round =>
  obtain ⟨j, hj, rfl, hb, rfl⟩:=hrel
  have HB:=Lib.hid hb
  clear hb
  by_cases hlt : j < 3
  ·obtain ⟨u, hu, hl⟩:=HC.out j hlt
   have HL:=Lib.hid hl
   have HLt:=Lib.hid hlt
   have hji : (j : Int) < 3:=by omega
   have hj0 : (0 : Int) ≤ (j : Int):=by omega
   clear hl
   by_cases h0 : u = 0
   ·obtain ⟨e1, n1⟩:=eq_facts h0
    have HX:=Lib.hid h0
    clear h0
    go_wp2_with fail
    go_roundw
    case rel=>exact ⟨j + 1, HLt.out, by go_num, fun k v hk hv=>by
     rcases Nat.lt_or_eq_of_le (Nat.lt_succ_iff.1 hk) with h | h
     ·exact HB.out k v h hv
     ·subst h
      have h1:=HL.out
      rw [hv] at h1
      rw [Option.some.inj h1];exact HX.out, trivial⟩
    case measure=>simp [intOf];have:=HLt.out;omega
   ·obtain ⟨e1, n1⟩:=ne_facts h0
    have HV:=Lib.hid (HO.out j u HL.out HB.out h0)
    clear h0
    go_wp2_with fail
    go_ret
    exact ⟨by rw [HV.out];rfl, rfl⟩
  ·obtain rfl : j = 3:=by omega
   have HV:=Lib.hid (HZ.out HB.out)
   go_wp2_with fail
   go_ret
   exact ⟨by rw [HV.out];rfl, rfl⟩
def ordI (a b : Gr) : Int:=orI (cmpI a.page b.page) (cmpI a.slot b.slot) (cmpI a.tx b.tx)
theorem ordI_neg {a b : Gr} : ordI a b < 0 ↔ GLt a b:=by
 have h1:=@cmpI_zero a.page b.page
 have h2:=@cmpI_zero a.slot b.slot
 have n1:=@cmpI_neg a.page b.page
 have n2:=@cmpI_neg a.slot b.slot
 have n3:=@cmpI_neg a.tx b.tx
 unfold ordI orI GLt
 split
 ·split <;> omega
 ·omega
theorem ordI_zero {a b : Gr} : ordI a b = 0 ↔ (a.tx = b.tx ∧ a.page = b.page ∧ a.slot = b.slot):=by
 have h1:=@cmpI_zero a.page b.page
 have h2:=@cmpI_zero a.slot b.slot
 have h3:=@cmpI_zero a.tx b.tx
 unfold ordI orI
 split
 ·split <;> omega
 ·omega
end Go.Proofs.Ytooaldglgkjjgaa
/- the program's order of grants (locks) -/
namespace Go.Proofs.Ytooaldglgkjjgaa
open Go.RowKit
open Go.Act renaming put → z0
open List renaming setIfInBounds_toArray → z1, set_cons_zero → z2, set_cons_succ → z3
set_option maxRecDepth 20000
set_option linter.unusedSimpArgs false
set_option linter.unusedVariables false

theorem compare_b (x y : Int) (W : World) : Calls Try.prog 94 #[.int .i64 x, .int .i64 y] W fun e w'=>e = .returned (.int .i64 (cmpI x y)) ∧ Below W.heap.size W w' :=
 (compare_any x y W).mono fun e w' h=>⟨h.1, by rw [h.2];exact Below.refl _ _⟩
theorem or3_b (x y z : Int) (b : Nat) (w : World) (h0 : w.cell? ⟨b, 0, none⟩ = some (.int .i64 x)) (h1 : w.cell? ⟨b, 1, none⟩ = some (.int .i64 y)) (h2 : w.cell? ⟨b, 2, none⟩ = some (.int .i64 z)) :
  Calls Try.prog 93 #[.slice (some ⟨b, 0, none⟩) 3 3] w fun e w'=>e = .returned (.int .i64 (orI x y z)) ∧ Below w.heap.size w w' :=
 (or3_any x y z b w h0 h1 h2).mono fun e w' h=>⟨h.1, by rw [h.2];exact Below.refl _ _⟩
abbrev qPko_0 : Oper:={ dst:=some 5, op:=Op.fieldAddr 29 (Operand.tmp 2) 1, type:=0, pos := "locks.go:13", after:=#[], guard:=none }
abbrev qPko_1 : Oper:={ dst:=some 6, op:=Op.fieldAddr 27 (Operand.tmp 5) 0, type:=0, pos := "locks.go:13", after:=#[{ on:=0, ground:=Ground.data }], guard:=none }
abbrev qPko_2 : Oper:={ dst:=some 7, op:=Op.load 3 (Operand.tmp 6), type:=3, pos := "locks.go:13", after:=#[{ on:=1, ground:=Ground.data }], guard:=none }
abbrev qPko_3 : Oper:={ dst:=some 8, op:=Op.fieldAddr 29 (Operand.tmp 3) 1, type:=0, pos := "locks.go:13", after:=#[], guard:=none }
abbrev qPko_4 : Oper:={ dst:=some 9, op:=Op.fieldAddr 27 (Operand.tmp 8) 0, type:=0, pos := "locks.go:13", after:=#[{ on:=3, ground:=Ground.data }], guard:=none }
abbrev qPko_5 : Oper:={ dst:=some 10, op:=Op.load 3 (Operand.tmp 9), type:=3, pos := "locks.go:13", after:=#[{ on:=4, ground:=Ground.data }], guard:=none }
abbrev qPko_6 : Oper:={ dst:=some 12, op:=Op.fieldAddr 29 (Operand.tmp 2) 1, type:=0, pos := "locks.go:13", after:=#[], guard:=none }
abbrev qPko_7 : Oper:={ dst:=some 13, op:=Op.fieldAddr 27 (Operand.tmp 12) 1, type:=0, pos := "locks.go:13", after:=#[{ on:=7, ground:=Ground.data }], guard:=none }
abbrev qPko_8 : Oper:={ dst:=some 14, op:=Op.load 3 (Operand.tmp 13), type:=3, pos := "locks.go:13", after:=#[{ on:=8, ground:=Ground.data }], guard:=none }
abbrev qPko_9 : Oper:={ dst:=some 15, op:=Op.fieldAddr 29 (Operand.tmp 3) 1, type:=0, pos := "locks.go:13", after:=#[], guard:=none }
abbrev qPko_10 : Oper:={ dst:=some 16, op:=Op.fieldAddr 27 (Operand.tmp 15) 1, type:=0, pos := "locks.go:13", after:=#[{ on:=10, ground:=Ground.data }], guard:=none }
abbrev qPko_11 : Oper:={ dst:=some 17, op:=Op.load 3 (Operand.tmp 16), type:=3, pos := "locks.go:13", after:=#[{ on:=11, ground:=Ground.data }], guard:=none }
abbrev qPko_12 : Oper:={ dst:=some 19, op:=Op.fieldAddr 29 (Operand.tmp 2) 0, type:=0, pos := "locks.go:13", after:=#[], guard:=none }
abbrev qPko_13 : Oper:={ dst:=some 20, op:=Op.load 3 (Operand.tmp 19), type:=3, pos := "locks.go:13", after:=#[{ on:=14, ground:=Ground.data }], guard:=none }
abbrev qPko_14 : Oper:={ dst:=some 21, op:=Op.fieldAddr 29 (Operand.tmp 3) 0, type:=0, pos := "locks.go:13", after:=#[], guard:=none }
abbrev qPko_15 : Oper:={ dst:=some 22, op:=Op.load 3 (Operand.tmp 21), type:=3, pos := "locks.go:13", after:=#[{ on:=16, ground:=Ground.data }], guard:=none }
abbrev qPko_16 : Oper:={ dst:=some 11, op:=Op.call { callee:=Callee.value (Operand.func 94), args:=#[Operand.tmp 7, Operand.tmp 10], argTypes:=#[3, 3] }, type:=3, pos := "locks.go:13", after:=#[{ on:=2, ground:=Ground.data }, { on:=5, ground:=Ground.data }], guard:=none }
abbrev qPko_17 : Oper:={ dst:=some 18, op:=Op.call { callee:=Callee.value (Operand.func 94), args:=#[Operand.tmp 14, Operand.tmp 17], argTypes:=#[3, 3] }, type:=3, pos := "locks.go:13", after:=#[{ on:=9, ground:=Ground.data }, { on:=12, ground:=Ground.data }, { on:=6, ground:=Ground.chain }], guard:=none }
abbrev qPko_18 : Oper:={ dst:=some 23, op:=Op.call { callee:=Callee.value (Operand.func 94), args:=#[Operand.tmp 20, Operand.tmp 22], argTypes:=#[3, 3] }, type:=3, pos := "locks.go:13", after:=#[{ on:=15, ground:=Ground.data }, { on:=17, ground:=Ground.data }, { on:=13, ground:=Ground.chain }], guard:=none }
abbrev qPko_19 : Oper:={ dst:=some 24, op:=Op.buildSlice 38 3 #[(0, Operand.tmp 11), (1, Operand.tmp 18), (2, Operand.tmp 23)], type:=38, pos := "locks.go:13", after:=#[{ on:=6, ground:=Ground.data }, { on:=13, ground:=Ground.data }, { on:=18, ground:=Ground.data }], guard:=none }
abbrev qPko_20 : Oper:={ dst:=some 25, op:=Op.call { callee:=Callee.value (Operand.func 93), args:=#[Operand.tmp 24], argTypes:=#[38] }, type:=3, pos := "locks.go:13", after:=#[{ on:=19, ground:=Ground.data }, { on:=18, ground:=Ground.chain }], guard:=none }
abbrev qPko_21 : Oper:={ dst:=some 4, op:=Op.assign (Operand.tmp 25), type:=3, pos := "locks.go:13", after:=#[{ on:=20, ground:=Ground.data }, { on:=20, ground:=Ground.chain }, { on:=0, ground:=Ground.phase }, { on:=1, ground:=Ground.phase }, { on:=2, ground:=Ground.phase }, { on:=3, ground:=Ground.phase }, { on:=4, ground:=Ground.phase }, { on:=5, ground:=Ground.phase }, { on:=6, ground:=Ground.phase }, { on:=7, ground:=Ground.phase }, { on:=8, ground:=Ground.phase }, { on:=9, ground:=Ground.phase }, { on:=10, ground:=Ground.phase }, { on:=11, ground:=Ground.phase }, { on:=12, ground:=Ground.phase }, { on:=13, ground:=Ground.phase }, { on:=14, ground:=Ground.phase }, { on:=15, ground:=Ground.phase }, { on:=16, ground:=Ground.phase }, { on:=17, ground:=Ground.phase }, { on:=18, ground:=Ground.phase }, { on:=19, ground:=Ground.phase }, { on:=20, ground:=Ground.phase }], guard:=none }
set_option maxHeartbeats 4000000 in
theorem order_any (a b : Gr) (w : World) : Calls Try.prog 77 #[.agg (grCells a).toArray, .agg (grCells b).toArray] w fun e w'=>e = .returned (.int .i64 (ordI a b)) ∧ Below w.heap.size w w':=by
 have h1:=((Hp.start w).put 29 (grCells a)).put 29 (grCells b)
 simp only [World.size_alloc, List.nil_append, List.cons_append] at h1
 have HS0 : Hid (Hp w [.ob w.heap.size 29 (grCells a), .ob (w.heap.size + 1) 29 (grCells b)] ((w.alloc (.cells (grCells a).toArray 29)).alloc (.cells (grCells b).toArray 29))):=h1
 clear h1
 have HV : Hid (ordI a b = orI (cmpI a.page b.page) (cmpI a.slot b.slot) (cmpI a.tx b.tx)):=rfl
 have HUI : Hid (Try.prog.underlying 38 = some (.slice 3)):=Try.underlying38
 go_enter Try.func77, Try.ntmps77
 go_upto_region 1 with (fail)
 generalize ((w.alloc (.cells (grCells a).toArray 29)).alloc (.cells (grCells b).toArray 29)) = w1 at *
 generalize w.heap.size + 1 = k2 at *
 refine wp_region_held_drew (S:=fun w'=>w'.rangeAt w.heap.size 0 (grCells a) ∧ w'.rangeAt k2 0 (grCells b)) (by kernel_rfl) (⟨(fun j v hv=>by rw [Nat.zero_add];exact ((HS0.out).drew).at 0 rfl j hv), (fun j v hv=>by rw [Nat.zero_add];exact ((HS0.out).drew).at 1 rfl j hv)⟩) (fun hHeld=>?_)
 refine tk 0 qPko_0 (some 5) (v:=?q1v) (Or.inl ⟨by rfl, ?q1h⟩) hHeld ?q1r
 case q1h=>(intro _ h;clear h;go_simp;try with_reducible rfl)
 try simp only [z0, z1, z2, z3]
 refine tk 1 qPko_1 (some 6) (v:=?q2v) (Or.inl ⟨by rfl, ?q2h⟩) hHeld ?q2r
 case q2h=>(intro _ h;clear h;go_simp;try with_reducible rfl)
 try simp only [z0, z1, z2, z3]
 refine tk 2 qPko_2 (some 7) (v:=.int .i64 a.page) (Or.inl ⟨by rfl, ?q3h⟩) hHeld ?q3r
 case q3h=>(intro wq hSw;have lq:=(hSw.1) 1 (.int .i64 a.page) rfl;simp only [Nat.zero_add] at lq;clear hSw;go_simp;try with_reducible rfl)
 try simp only [z0, z1, z2, z3]
 refine tk 3 qPko_3 (some 8) (v:=?q4v) (Or.inl ⟨by rfl, ?q4h⟩) hHeld ?q4r
 case q4h=>(intro _ h;clear h;go_simp;try with_reducible rfl)
 try simp only [z0, z1, z2, z3]
 refine tk 4 qPko_4 (some 9) (v:=?q5v) (Or.inl ⟨by rfl, ?q5h⟩) hHeld ?q5r
 case q5h=>(intro _ h;clear h;go_simp;try with_reducible rfl)
 try simp only [z0, z1, z2, z3]
 refine tk 5 qPko_5 (some 10) (v:=.int .i64 b.page) (Or.inl ⟨by rfl, ?q6h⟩) hHeld ?q6r
 case q6h=>(intro wq hSw;have lq:=(hSw.2) 1 (.int .i64 b.page) rfl;simp only [Nat.zero_add] at lq;clear hSw;go_simp;try with_reducible rfl)
 try simp only [z0, z1, z2, z3]
 refine tk 7 qPko_6 (some 12) (v:=?q7v) (Or.inl ⟨by rfl, ?q7h⟩) hHeld ?q7r
 case q7h=>(intro _ h;clear h;go_simp;try with_reducible rfl)
 try simp only [z0, z1, z2, z3]
 refine tk 8 qPko_7 (some 13) (v:=?q8v) (Or.inl ⟨by rfl, ?q8h⟩) hHeld ?q8r
 case q8h=>(intro _ h;clear h;go_simp;try with_reducible rfl)
 try simp only [z0, z1, z2, z3]
 refine tk 9 qPko_8 (some 14) (v:=.int .i64 a.slot) (Or.inl ⟨by rfl, ?q9h⟩) hHeld ?q9r
 case q9h=>(intro wq hSw;have lq:=(hSw.1) 2 (.int .i64 a.slot) rfl;simp only [Nat.zero_add] at lq;clear hSw;go_simp;try with_reducible rfl)
 try simp only [z0, z1, z2, z3]
 refine tk 10 qPko_9 (some 15) (v:=?q10v) (Or.inl ⟨by rfl, ?q10h⟩) hHeld ?q10r
 case q10h=>(intro _ h;clear h;go_simp;try with_reducible rfl)
 try simp only [z0, z1, z2, z3]
 refine tk 11 qPko_10 (some 16) (v:=?q11v) (Or.inl ⟨by rfl, ?q11h⟩) hHeld ?q11r
 case q11h=>(intro _ h;clear h;go_simp;try with_reducible rfl)
 try simp only [z0, z1, z2, z3]
 refine tk 12 qPko_11 (some 17) (v:=.int .i64 b.slot) (Or.inl ⟨by rfl, ?q12h⟩) hHeld ?q12r
 case q12h=>(intro wq hSw;have lq:=(hSw.2) 2 (.int .i64 b.slot) rfl;simp only [Nat.zero_add] at lq;clear hSw;go_simp;try with_reducible rfl)
 try simp only [z0, z1, z2, z3]
 refine tk 14 qPko_12 (some 19) (v:=?q13v) (Or.inl ⟨by rfl, ?q13h⟩) hHeld ?q13r
 case q13h=>(intro _ h;clear h;go_simp;try with_reducible rfl)
 try simp only [z0, z1, z2, z3]
 refine tk 15 qPko_13 (some 20) (v:=.int .i64 a.tx) (Or.inl ⟨by rfl, ?q14h⟩) hHeld ?q14r
 case q14h=>(intro wq hSw;have lq:=(hSw.1) 0 (.int .i64 a.tx) rfl;simp only [Nat.zero_add] at lq;clear hSw;go_simp;try with_reducible rfl)
 try simp only [z0, z1, z2, z3]
 refine tk 16 qPko_14 (some 21) (v:=?q15v) (Or.inl ⟨by rfl, ?q15h⟩) hHeld ?q15r
 case q15h=>(intro _ h;clear h;go_simp;try with_reducible rfl)
 try simp only [z0, z1, z2, z3]
 refine tk 17 qPko_15 (some 22) (v:=.int .i64 b.tx) (Or.inl ⟨by rfl, ?q16h⟩) hHeld ?q16r
 case q16h=>(intro wq hSw;have lq:=(hSw.2) 0 (.int .i64 b.tx) rfl;simp only [Nat.zero_add] at lq;clear hSw;go_simp;try with_reducible rfl)
 try simp only [z0, z1, z2, z3]
 refine tn 6 qPko_16 (fun K hK=>?_)
 go_simp
 go_wp2_with (go_at_call 94;refine (compare_b _ _ _).mono ?_;rintro e w2 ⟨rfl, hb⟩)
 have HS1:=Lib.hid (((HS0.out).drew).calls hb)
 refine hK.out _ _ (⟨(fun j v hv=>by rw [Nat.zero_add];exact (HS1.out).at 0 rfl j hv), (fun j v hv=>by rw [Nat.zero_add];exact (HS1.out).at 1 rfl j hv)⟩) (fun hHeld=>?_)
 clear hK K hb
 try simp only [z0, z1, z2, z3]
 refine tn 13 qPko_17 (fun K hK=>?_)
 go_simp
 go_wp2_with (go_at_call 94;refine (compare_b _ _ _).mono ?_;rintro e w3 ⟨rfl, hb⟩)
 have HS2:=Lib.hid ((HS1.out).calls hb)
 refine hK.out _ _ (⟨(fun j v hv=>by rw [Nat.zero_add];exact (HS2.out).at 0 rfl j hv), (fun j v hv=>by rw [Nat.zero_add];exact (HS2.out).at 1 rfl j hv)⟩) (fun hHeld=>?_)
 clear hK K hb
 try simp only [z0, z1, z2, z3]
 refine tn 18 qPko_18 (fun K hK=>?_)
 go_simp
 go_wp2_with (go_at_call 94;refine (compare_b _ _ _).mono ?_;rintro e w4 ⟨rfl, hb⟩)
 have HS3:=Lib.hid ((HS2.out).calls hb)
 refine hK.out _ _ (⟨(fun j v hv=>by rw [Nat.zero_add];exact (HS3.out).at 0 rfl j hv), (fun j v hv=>by rw [Nat.zero_add];exact (HS3.out).at 1 rfl j hv)⟩) (fun hHeld=>?_)
 clear hK K hb
 try simp only [z0, z1, z2, z3]
 refine tn 19 qPko_19 (fun K hK=>?_)
 rw [if_pos (by rfl)]
 refine wp_build_vals rfl elem_i HUI.out [.int .i64 (cmpI a.page b.page), .int .i64 (cmpI a.slot b.slot), .int .i64 (cmpI a.tx b.tx)] (by intro v hv;simp only [List.mem_cons, List.not_mem_nil, or_false] at hv;rcases hv with rfl | rfl | rfl <;> rfl) (Nat.succ_pos _) (by simp only [List.length_cons, List.length_nil];omega) rfl (by simp only [List.map_toArray, List.map_cons, List.map_nil, List.zipIdx_cons, List.zipIdx_nil];exact rfl) ?_
 have HS4 : Hid (Hp w [.ob (w.heap.size) 29 (grCells a), .ob k2 29 (grCells b), .ob (w4.heap.size) 3 ([.int .i64 (cmpI a.page b.page), .int .i64 (cmpI a.slot b.slot), .int .i64 (cmpI a.tx b.tx)])] (w4.alloc (.cells ([.int .i64 (cmpI a.page b.page), .int .i64 (cmpI a.slot b.slot), .int .i64 (cmpI a.tx b.tx)]).toArray 3))):=(HS3.out).put 3 ([.int .i64 (cmpI a.page b.page), .int .i64 (cmpI a.slot b.slot), .int .i64 (cmpI a.tx b.tx)])
 refine hK.out _ _ (⟨(fun j v hv=>by rw [Nat.zero_add];exact (HS4.out).at 0 rfl j hv), (fun j v hv=>by rw [Nat.zero_add];exact (HS4.out).at 1 rfl j hv)⟩) (fun hHeld=>?_)
 clear hK K
 generalize (w4.alloc (.cells ([.int .i64 (cmpI a.page b.page), .int .i64 (cmpI a.slot b.slot), .int .i64 (cmpI a.tx b.tx)]).toArray 3)) = w5 at *
 generalize w4.heap.size = B1 at *
 try simp only [z0, z1, z2, z3]
 refine tn 20 qPko_20 (fun K hK=>?_)
 go_simp
 go_wp2_with (go_at_call 93;refine (or3_b _ _ _ B1 _ ((HS4.out).at 2 rfl 0 rfl) ((HS4.out).at 2 rfl 1 rfl) ((HS4.out).at 2 rfl 2 rfl)).mono ?_;rintro e w6 ⟨rfl, hb⟩)
 have HS5:=Lib.hid ((HS4.out).calls hb)
 refine hK.out _ _ (⟨(fun j v hv=>by rw [Nat.zero_add];exact (HS5.out).at 0 rfl j hv), (fun j v hv=>by rw [Nat.zero_add];exact (HS5.out).at 1 rfl j hv)⟩) (fun hHeld=>?_)
 clear hK K hb
 try simp only [z0, z1, z2, z3]
 refine tk 21 qPko_21 (some 4) (v:=?q17v) (Or.inl ⟨by rfl, ?q17h⟩) hHeld ?q17r
 case q17h=>(intro _ h;clear h;go_simp;try with_reducible rfl)
 try simp only [z0, z1, z2, z3]
 refine wpAnyH_done (by kernel_rfl) ?_ _
 clear hHeld
 go_wp2_with fail
 go_ret
 exact ⟨by rw [HV.out];rfl, (HS5.out).old⟩
end Go.Proofs.Ytooaldglgkjjgaa
/- the program's order, conflicts, validity, and what finds grants (locks) -/
namespace Go.Proofs.Ytooaldglgkjjgaa
open Go.RowKit
set_option maxRecDepth 20000
set_option linter.unusedSimpArgs false
set_option linter.unusedVariables false

set_option maxHeartbeats 4000000 in
theorem pconflict_any (a b : Gr) (w : World) (ha : GoodGr a) (hb : GoodGr b) : Calls Try.prog 78 #[.agg (grCells a).toArray, .agg (grCells b).toArray] w fun e w'=>e = .returned (.bool (confB a b)) ∧ Below w.heap.size w w':=by
 have HB : Hid (∀ cs ds, Below w.heap.size w ((w.alloc (.cells cs 29)).alloc (.cells ds 29))):=fun cs ds=>((Below.refl _ _).alloc (Nat.le_refl _) _).alloc (by simp) _
 have hq : ∀ W, Sem.run Try.prog (binOp .eql 27 (.agg #[.int .i64 a.page, .int .i64 a.slot]) (.agg #[.int .i64 b.page, .int .i64 b.slot])) W = .ok (.bool (sameV a.lock b.lock)) W:=fun W=>run_eql (equal_lk a.lock b.lock ha.lock hb.lock) W
 have hs : sameV a.lock b.lock = (decide (a.page = b.page) && decide (a.slot = b.slot)):=by
  rw [Bool.eq_iff_iff, sameV_iff, Bool.and_eq_true, decide_eq_true_eq, decide_eq_true_eq]
  exact ⟨fun h=>⟨congrArg Lok.page h, congrArg Lok.slot h⟩, fun h=>by show Lok.mk _ _ = Lok.mk _ _;rw [h.1, h.2]⟩
 clear ha hb
 unfold grCells
 generalize sameV a.lock b.lock = q at *
 by_cases h1 : a.tx = b.tx
 ·obtain ⟨e1, n1⟩:=eq_facts h1
  have HV : Hid (confB a b = false):=Lib.hid (by unfold confB;simp [h1])
  clear h1 hs
  go_enter Try.func78, Try.ntmps78
  go_wp2
  go_ret
  exact ⟨ret_bool (by rw [HV.out]), HB.out _ _⟩
 ·obtain ⟨e1, n1⟩:=ne_facts h1
  cases q
  ·have HV : Hid (confB a b = false):=Lib.hid (by unfold confB;have:=hs.symm;simp only [Bool.and_eq_false_iff, decide_eq_false_iff_not] at this;rcases this with h | h <;> simp [h])
   clear h1 hs
   go_enter Try.func78, Try.ntmps78
   go_wp2
   go_ret
   exact ⟨ret_bool (by rw [HV.out]), HB.out _ _⟩
  ·have hs2:=hs.symm
   simp only [Bool.and_eq_true, decide_eq_true_eq] at hs2
   by_cases h2 : a.mode = 2
   ·obtain ⟨e2, n2⟩:=eq_facts h2
    have HV : Hid (confB a b = true):=Lib.hid (by unfold confB;simp [h1, hs2.1, hs2.2, h2])
    clear h1 hs hs2 h2
    go_enter Try.func78, Try.ntmps78
    go_wp2
    go_ret
    exact ⟨ret_bool (by rw [HV.out]), HB.out _ _⟩
   ·obtain ⟨e2, n2⟩:=ne_facts h2
    have HV : Hid (confB a b = (b.mode == 2)):=Lib.hid (by unfold confB;simp [h1, hs2.1, hs2.2, h2, beq_dec'])
    clear h1 hs hs2 h2
    go_enter Try.func78, Try.ntmps78
    go_wp2
    go_ret
    exact ⟨ret_bool (by rw [HV.out]), HB.out _ _⟩
set_option maxHeartbeats 8000000 in
theorem pgrant_any (g : Gr) (w : World) : Calls Try.prog 43 #[.agg (grCells g).toArray] w fun e w'=>e = .returned (.bool (grOkB g)) ∧ Below w.heap.size w w':=by
 have HB : Hid (∀ cs, Below w.heap.size w (w.alloc (.cells cs 29))):=fun cs=>(Below.refl _ _).alloc (Nat.le_refl _) _
 have HV : Hid (grOkB g = (decide (1 ≤ g.tx) && (decide (g.tx ≤ 1073741824) && (decide (0 ≤ g.page) && (decide (g.page < 64) && (decide (0 ≤ g.slot) && (decide (g.slot < 16) && (decide (g.mode = 1) || decide (g.mode = 2))))))))):=rfl
 have m1:=beq_dec' g.mode 1
 have m2:=beq_dec' g.mode 2
 unfold grCells
 obtain ⟨p0, hp0⟩ : ∃ p, decide (1 ≤ g.tx) = p:=⟨_, rfl⟩
 obtain ⟨p1, hp1⟩ : ∃ p, decide (g.tx ≤ 1073741824) = p:=⟨_, rfl⟩
 obtain ⟨p2, hp2⟩ : ∃ p, decide (0 ≤ g.page) = p:=⟨_, rfl⟩
 obtain ⟨p3, hp3⟩ : ∃ p, decide (g.page < 64) = p:=⟨_, rfl⟩
 obtain ⟨p4, hp4⟩ : ∃ p, decide (0 ≤ g.slot) = p:=⟨_, rfl⟩
 obtain ⟨p5, hp5⟩ : ∃ p, decide (g.slot < 16) = p:=⟨_, rfl⟩
 obtain ⟨p6, hp6⟩ : ∃ p, decide (g.mode = 1) = p:=⟨_, rfl⟩
 obtain ⟨p7, hp7⟩ : ∃ p, decide (g.mode = 2) = p:=⟨_, rfl⟩
 simp only [hp0, hp1, hp2, hp3, hp4, hp5, hp6, hp7] at HV m1 m2
 cases p0
 ·go_enter Try.func43, Try.ntmps43
  go_wp2
  go_ret
  exact ⟨ret_bool (by rw [HV.out];first | rfl | simp), HB.out _⟩
 ·skip
  cases p1
  ·go_enter Try.func43, Try.ntmps43
   go_wp2
   go_ret
   exact ⟨ret_bool (by rw [HV.out];first | rfl | simp), HB.out _⟩
  ·skip
   cases p2
   ·go_enter Try.func43, Try.ntmps43
    go_wp2
    go_ret
    exact ⟨ret_bool (by rw [HV.out];first | rfl | simp), HB.out _⟩
   ·skip
    cases p3
    ·go_enter Try.func43, Try.ntmps43
     go_wp2
     go_ret
     exact ⟨ret_bool (by rw [HV.out];first | rfl | simp), HB.out _⟩
    ·skip
     cases p4
     ·go_enter Try.func43, Try.ntmps43
      go_wp2
      go_ret
      exact ⟨ret_bool (by rw [HV.out];first | rfl | simp), HB.out _⟩
     ·skip
      cases p5
      ·go_enter Try.func43, Try.ntmps43
       go_wp2
       go_ret
       exact ⟨ret_bool (by rw [HV.out];first | rfl | simp), HB.out _⟩
      ·skip
       cases p6
       ·go_enter Try.func43, Try.ntmps43
        go_wp2
        go_ret
        exact ⟨ret_bool (by rw [HV.out];first | rfl | simp), HB.out _⟩
       ·go_enter Try.func43, Try.ntmps43
        go_wp2
        go_ret
        exact ⟨ret_bool (by rw [HV.out];first | rfl | simp), HB.out _⟩
def GrFn (g : Nat) (lb : Array Value) (p : Gr → Bool) (l : List Gr) (w : World) : Prop :=
 ∀ W x, x ∈ l → Below w.heap.size w W → Calls Try.prog g (#[.agg (grCells x).toArray] ++ lb) W fun e w'=>e = .returned (.bool (p x)) ∧ Below W.heap.size W w'
def GrAt (g : Nat) (lb : Array Value) (p : Gr → Bool) (l : List Gr) (R : List Rng) : Prop :=
 ∀ W x, x ∈ l → RdIn W R → Calls Try.prog g (#[.agg (grCells x).toArray] ++ lb) W fun e w'=>e = .returned (.bool (p x)) ∧ Below W.heap.size W w'
theorem GrAt.fn {g : Nat} {lb : Array Value} {p : Gr → Bool} {l : List Gr} {R : List Rng} {w : World} (h : GrAt g lb p l R) (hR : RdIn w R) : GrFn g lb p l w:=fun W x hx hb=>h W x hx (hR.below hb)
def EntersF (g : Nat) : Prop:=∀ args w, (callFunc g args).run Try.prog w = .ok (.enter g args) w
theorem eg_of : EntersF 69:=enters_of Try.func69 (by kernel_rfl) rfl
theorem eg_against : EntersF 90:=enters_of Try.func90 (by kernel_rfl) rfl
set_option maxHeartbeats 4000000 in
theorem of_at (tx : Int) (b : Nat) (l : List Gr) : GrAt 69 #[.pointer (some ⟨b, 0, none⟩)] (fun x=>decide (x.tx = tx)) l [(b, 0, [.int .i64 tx])]:=by
 intro W x hx hR
 have hb:=hR _ (List.mem_singleton.2 rfl)
 have c0 : W.cell? ⟨b, 0, none⟩ = some (.int .i64 tx):=hb.2 0 _ rfl
 have HV : Hid ((x.tx == tx) = decide (x.tx = tx)):=beq_dec' _ _
 have HLtb : Hid (b < W.heap.size):=(by have:=hb.1;exact this)
 have h1:=(Hp.start W).put 29 (grCells x)
 have HS0 : Hid (Hp W [.ob W.heap.size 29 (grCells x)] (W.alloc (.cells #[.int .i64 x.tx, .int .i64 x.page, .int .i64 x.slot, .int .i64 x.mode] 29))):=h1
 clear h1
 clear hR hb
 show Calls Try.prog 69 #[.agg #[.int .i64 x.tx, .int .i64 x.page, .int .i64 x.slot, .int .i64 x.mode], .pointer (some ⟨b, 0, none⟩)] W _
 go_enter Try.func69, Try.ntmps69
 go_upto_region 1 with (fail)
 generalize (W.alloc (.cells #[.int .i64 x.tx, .int .i64 x.page, .int .i64 x.slot, .int .i64 x.mode] 29)) = w1 at *
 have x0 : w1.cell? ⟨W.heap.size, 0, none⟩ = some (.int .i64 x.tx):=HS0.out.at 0 rfl 0 rfl
 have x1 : w1.cell? ⟨W.heap.size, 1, none⟩ = some (.int .i64 x.page):=HS0.out.at 0 rfl 1 rfl
 have x2 : w1.cell? ⟨W.heap.size, 2, none⟩ = some (.int .i64 x.slot):=HS0.out.at 0 rfl 2 rfl
 have x3 : w1.cell? ⟨W.heap.size, 3, none⟩ = some (.int .i64 x.mode):=HS0.out.at 0 rfl 3 rfl
 have dc0:=(HS0.out.old.cell (p:=⟨b, 0, none⟩) HLtb.out).trans c0
 have HB:=Lib.hid HS0.out.old
 clear HS0 c0
 go_wp2
 go_ret
 exact ⟨ret_bool HV.out, HB.out⟩
set_option maxHeartbeats 4000000 in
theorem against_at (g : Gr) (hg : GoodGr g) (b : Nat) (l : List Gr) (hl : ∀ x ∈ l, GoodGr x) : GrAt 90 #[.pointer (some ⟨b, 0, none⟩)] (fun x=>confB g x) l [(b, 0, grCells g)]:=by
 intro W x hx hR
 have hb:=hR _ (List.mem_singleton.2 rfl)
 have c0 : W.cell? ⟨b, 0, none⟩ = some (.int .i64 g.tx):=hb.2 0 _ rfl
 have c1 : W.cell? ⟨b, 1, none⟩ = some (.int .i64 g.page):=hb.2 1 _ rfl
 have c2 : W.cell? ⟨b, 2, none⟩ = some (.int .i64 g.slot):=hb.2 2 _ rfl
 have c3 : W.cell? ⟨b, 3, none⟩ = some (.int .i64 g.mode):=hb.2 3 _ rfl
 have hc : ∀ V, Calls Try.prog 78 #[.agg #[.int .i64 g.tx, .int .i64 g.page, .int .i64 g.slot, .int .i64 g.mode], .agg #[.int .i64 x.tx, .int .i64 x.page, .int .i64 x.slot, .int .i64 x.mode]] V fun e w'=>e = .returned (.bool (confB g x)) ∧ Below V.heap.size V w':=fun V=>pconflict_any g x V hg (hl x hx)
 have HLtb : Hid (b < W.heap.size):=(by have:=hb.1;exact this)
 have h1:=(Hp.start W).put 29 (grCells x)
 have HS0 : Hid (Hp W [.ob W.heap.size 29 (grCells x)] (W.alloc (.cells #[.int .i64 x.tx, .int .i64 x.page, .int .i64 x.slot, .int .i64 x.mode] 29))):=h1
 clear h1
 clear hR hb hg hl
 show Calls Try.prog 90 #[.agg #[.int .i64 x.tx, .int .i64 x.page, .int .i64 x.slot, .int .i64 x.mode], .pointer (some ⟨b, 0, none⟩)] W _
 go_enter Try.func90, Try.ntmps90
 go_upto_region 1 with (fail)
 generalize (W.alloc (.cells #[.int .i64 x.tx, .int .i64 x.page, .int .i64 x.slot, .int .i64 x.mode] 29)) = w1 at *
 have x0 : w1.cell? ⟨W.heap.size, 0, none⟩ = some (.int .i64 x.tx):=HS0.out.at 0 rfl 0 rfl
 have x1 : w1.cell? ⟨W.heap.size, 1, none⟩ = some (.int .i64 x.page):=HS0.out.at 0 rfl 1 rfl
 have x2 : w1.cell? ⟨W.heap.size, 2, none⟩ = some (.int .i64 x.slot):=HS0.out.at 0 rfl 2 rfl
 have x3 : w1.cell? ⟨W.heap.size, 3, none⟩ = some (.int .i64 x.mode):=HS0.out.at 0 rfl 3 rfl
 have dc0:=(HS0.out.old.cell (p:=⟨b, 0, none⟩) HLtb.out).trans c0
 have dc1:=(HS0.out.old.cell (p:=⟨b, 1, none⟩) HLtb.out).trans c1
 have dc2:=(HS0.out.old.cell (p:=⟨b, 2, none⟩) HLtb.out).trans c2
 have dc3:=(HS0.out.old.cell (p:=⟨b, 3, none⟩) HLtb.out).trans c3
 have HB:=Lib.hid HS0.out.old
 clear HS0 c0 c1 c2 c3
 go_wp2_with (go_at_call 78;refine (hc _).mono ?_;rintro e w2 ⟨rfl, hb⟩)
 go_ret
 exact ⟨rfl, HB.out.trans (hb.mono HB.out.size)⟩
end Go.Proofs.Ytooaldglgkjjgaa
/- the library's searches through grants, by whatever function that reads, and in the order of what is held; what the program makes of them (locks) -/
namespace Go.Proofs.Ytooaldglgkjjgaa
open Go.RowKit
open Go.Act renaming put → z0
open List renaming setIfInBounds_toArray → z1, set_cons_zero → z2, set_cons_succ → z3
set_option maxRecDepth 20000
set_option linter.unusedSimpArgs false
set_option linter.unusedVariables false

/-- where the first one is, or -1 -/
def idxR {α : Type} (p : α → Bool) (l : List α) : Int:=match l.findIdx? p with | some i=>(i : Int) | none=>-1
theorem idxR_none {α : Type} {p : α → Bool} {l : List α} (h : l.all (fun x=>!p x) = true) : idxR p l = -1:=by
 unfold idxR
 have : l.findIdx? p = none:=by
  rw [List.findIdx?_eq_none_iff]
  intro x hx
  have:=(List.all_eq_true.1 h) x hx
  simpa using this
 rw [this]
theorem idxR_some {α : Type} {p : α → Bool} {l : List α} {k : Nat} (h : k < l.length) (hb : (l.take k).all (fun x=>!p x) = true) (hx : p l[k] = true) : idxR p l = (k : Int):=by
 unfold idxR
 have : l.findIdx? p = some k:=by
  rw [List.findIdx?_eq_some_iff_getElem]
  refine ⟨h, hx, fun j hj=>?_⟩
  have h1 : l[j] ∈ l.take k:=by
   rw [List.mem_take_iff_getElem]
   exact ⟨j, by omega, rfl⟩
  have:=(List.all_eq_true.1 hb) _ h1
  simpa using this
 rw [this]
abbrev qPk3_0 : Oper:={ dst:=some 24, op:=Op.move (Operand.tmp 2), type:=95, pos := "sort.go:160", after:=#[], guard:=none }
abbrev qPk3_1 : Oper:={ dst:=some 25, op:=Op.move (Operand.tmp 0), type:=23, pos := "sort.go:160", after:=#[], guard:=none }
abbrev qPk3_2 : Oper:={ dst:=some 26, op:=Op.move (Operand.tmp 11), type:=3, pos := "sort.go:160", after:=#[], guard:=none }
abbrev qPk3_3 : Oper:={ dst:=some 27, op:=Op.indexAddr 23 (Operand.tmp 25) (Operand.tmp 26), type:=0, pos := "sort.go:160", after:=#[{ on:=1, ground:=Ground.data }, { on:=2, ground:=Ground.data }], guard:=none }
abbrev qPk3_4 : Oper:={ dst:=some 28, op:=Op.load 29 (Operand.tmp 27), type:=29, pos := "sort.go:160", after:=#[{ on:=3, ground:=Ground.data }], guard:=none }
abbrev qPk3_5 : Oper:={ dst:=some 29, op:=Op.load 29 (Operand.tmp 4), type:=29, pos := "sort.go:160", after:=#[], guard:=none }
abbrev qPk3_6 : Oper:={ dst:=some 30, op:=Op.call { callee:=Callee.value (Operand.tmp 24), args:=#[Operand.tmp 28, Operand.tmp 29], argTypes:=#[29, 29] }, type:=3, pos := "sort.go:160", after:=#[{ on:=0, ground:=Ground.data }, { on:=4, ground:=Ground.data }, { on:=5, ground:=Ground.data }], guard:=none }
abbrev qPk3_7 : Oper:={ dst:=some 31, op:=Op.binOp BinOp.lss 3 (Operand.tmp 30) (Operand.const (Value.int IntKind.i64 0)) 3, type:=4, pos := "sort.go:160", after:=#[{ on:=6, ground:=Ground.data }], guard:=none }
abbrev qPk3_8 : Oper:={ dst:=some 35, op:=Op.move (Operand.tmp 9), type:=3, pos := "sort.go:167", after:=#[], guard:=none }
abbrev qPk3_9 : Oper:={ dst:=some 36, op:=Op.move (Operand.tmp 9), type:=3, pos := "sort.go:167", after:=#[], guard:=none }
abbrev qPk3_10 : Oper:={ dst:=some 37, op:=Op.move (Operand.tmp 8), type:=3, pos := "sort.go:167", after:=#[], guard:=none }
abbrev qPk3_11 : Oper:={ dst:=some 38, op:=Op.binOp BinOp.lss 3 (Operand.tmp 36) (Operand.tmp 37) 3, type:=4, pos := "sort.go:167", after:=#[{ on:=1, ground:=Ground.data }, { on:=2, ground:=Ground.data }], guard:=none }
abbrev qPk3_12 : Oper:={ dst:=some 39, op:=Op.move (Operand.tmp 38), type:=4, pos := "sort.go:167", after:=#[{ on:=3, ground:=Ground.data }], guard:=none }
abbrev qPk3_13 : Oper:={ dst:=some 40, op:=Op.move (Operand.tmp 2), type:=95, pos := "sort.go:167", after:=#[{ on:=4, ground:=Ground.guard }], guard:=some (4, true) }
abbrev qPk3_14 : Oper:={ dst:=some 41, op:=Op.move (Operand.tmp 0), type:=23, pos := "sort.go:167", after:=#[{ on:=4, ground:=Ground.guard }], guard:=some (4, true) }
abbrev qPk3_15 : Oper:={ dst:=some 42, op:=Op.move (Operand.tmp 9), type:=3, pos := "sort.go:167", after:=#[{ on:=4, ground:=Ground.guard }], guard:=some (4, true) }
abbrev qPk3_16 : Oper:={ dst:=some 43, op:=Op.indexAddr 23 (Operand.tmp 41) (Operand.tmp 42), type:=0, pos := "sort.go:167", after:=#[{ on:=6, ground:=Ground.data }, { on:=7, ground:=Ground.data }, { on:=4, ground:=Ground.guard }], guard:=some (4, true) }
abbrev qPk3_17 : Oper:={ dst:=some 44, op:=Op.load 29 (Operand.tmp 43), type:=29, pos := "sort.go:167", after:=#[{ on:=8, ground:=Ground.data }, { on:=4, ground:=Ground.guard }], guard:=some (4, true) }
abbrev qPk3_18 : Oper:={ dst:=some 45, op:=Op.load 29 (Operand.tmp 4), type:=29, pos := "sort.go:167", after:=#[{ on:=4, ground:=Ground.guard }], guard:=some (4, true) }
abbrev qPk3_19 : Oper:={ dst:=some 46, op:=Op.call { callee:=Callee.value (Operand.tmp 40), args:=#[Operand.tmp 44, Operand.tmp 45], argTypes:=#[29, 29] }, type:=3, pos := "sort.go:167", after:=#[{ on:=5, ground:=Ground.data }, { on:=9, ground:=Ground.data }, { on:=10, ground:=Ground.data }, { on:=4, ground:=Ground.chain }, { on:=4, ground:=Ground.guard }], guard:=some (4, true) }
abbrev qPk3_20 : Oper:={ dst:=some 47, op:=Op.binOp BinOp.eql 3 (Operand.tmp 46) (Operand.const (Value.int IntKind.i64 0)) 3, type:=4, pos := "sort.go:167", after:=#[{ on:=11, ground:=Ground.data }, { on:=4, ground:=Ground.guard }, { on:=14, ground:=Ground.gcOnly Departure.lateStores }], guard:=some (4, true) }
abbrev qPk3_21 : Oper:={ dst:=some 48, op:=Op.pick (Operand.tmp 39) (Operand.tmp 47) (Operand.const (Value.bool false)), type:=4, pos := "sort.go:167", after:=#[{ on:=4, ground:=Ground.data }, { on:=12, ground:=Ground.data }, { on:=14, ground:=Ground.gcOnly Departure.lateStores }], guard:=none }
abbrev qPk3_22 : Oper:={ dst:=some 6, op:=Op.assign (Operand.tmp 35), type:=3, pos := "sort.go:167", after:=#[{ on:=0, ground:=Ground.data }, { on:=11, ground:=Ground.chain }, { on:=0, ground:=Ground.phase }, { on:=1, ground:=Ground.textOnly Departure.lateStores }, { on:=2, ground:=Ground.textOnly Departure.lateStores }, { on:=3, ground:=Ground.textOnly Departure.lateStores }, { on:=4, ground:=Ground.textOnly Departure.lateStores }, { on:=5, ground:=Ground.textOnly Departure.lateStores }, { on:=6, ground:=Ground.textOnly Departure.lateStores }, { on:=7, ground:=Ground.textOnly Departure.lateStores }, { on:=8, ground:=Ground.textOnly Departure.lateStores }, { on:=9, ground:=Ground.textOnly Departure.lateStores }, { on:=10, ground:=Ground.textOnly Departure.lateStores }, { on:=11, ground:=Ground.textOnly Departure.lateStoresUnsure }, { on:=12, ground:=Ground.textOnly Departure.lateStores }, { on:=13, ground:=Ground.textOnly Departure.lateStores }], guard:=none }
abbrev qPk3_23 : Oper:={ dst:=some 7, op:=Op.assign (Operand.tmp 48), type:=4, pos := "sort.go:167", after:=#[{ on:=13, ground:=Ground.data }, { on:=14, ground:=Ground.chain }, { on:=0, ground:=Ground.phase }, { on:=1, ground:=Ground.phase }, { on:=2, ground:=Ground.phase }, { on:=3, ground:=Ground.phase }, { on:=4, ground:=Ground.phase }, { on:=5, ground:=Ground.phase }, { on:=6, ground:=Ground.phase }, { on:=7, ground:=Ground.phase }, { on:=8, ground:=Ground.phase }, { on:=9, ground:=Ground.phase }, { on:=10, ground:=Ground.phase }, { on:=11, ground:=Ground.phase }, { on:=12, ground:=Ground.phase }, { on:=13, ground:=Ground.phase }, { on:=14, ground:=Ground.phase }], guard:=none }
set_option maxHeartbeats 4000000 in
theorem idxGr_any (g : Nat) (lb : Array Value) (q : Gr → Bool) (l : List Gr) (v : Value) (R : List Rng) (w : World) (eg : EntersF g) (hp : GrFn g lb q l w) (hv : GrRd v l R) (hR : RdIn w R) (hl : l.length ≤ 200000) :
  Calls Try.prog 59 #[v, .func (.func g) #[] lb] w fun e w'=>e = .returned (.int .i64 (idxR q l)) ∧ Below w.heap.size w w':=by
 obtain ⟨a, cap, rfl, hnc, hcm, hg⟩:=SlRd.open hv hR
 obtain ⟨fs, huf⟩:=under_gr
 have HUF:=Lib.hid huf
 have HC : Hid (l.length ≤ cap ∧ cap ≤ maxLen):=⟨hnc, hcm⟩
 have HL:=Lib.hid hl
 have HP:=Lib.hid hp
 clear hv hR hnc hcm hl huf hp
 unfold EntersF at eg
 go_enter Try.func59, Try.ntmps59
 go_wp2_with fail
 go_loopw [8] (fun i wr=>∃ k : Nat, k ≤ l.length ∧ i = .int .i64 k ∧ (l.take k).all (fun x=>!q x) = true ∧ Below w.heap.size w wr) (fun i _=>l.length - (intOf i).toNat)
 case atStart=>exact ⟨0, by omega, rfl, rfl, Below.refl _ _⟩
 case round =>
  obtain ⟨k, hk, rfl, hh, hb⟩:=hrel
  have HB:=Lib.hid hb
  have HH:=Lib.hid hh
  clear hb hh
  by_cases hlt : k < l.length
  ·obtain ⟨b, off, rfl, hr⟩:=hg.out (by omega)
   obtain ⟨x, hx⟩ : ∃ x, l[k] = x:=⟨_, rfl⟩
   have hcells : Hid (wr.rangeAt b (off + k * 4) (grCells x)):=fun j u hj=>by
    rw [Nat.add_assoc]
    exact hr wr HB.out (k * 4 + j) u (grRow_at l k x (by rw [List.getElem?_eq_getElem hlt, hx]) j u hj)
   have hki : (k : Int) < (l.length : Int):=by omega
   have hk0 : (0 : Int) ≤ (k : Int):=by omega
   have hkm : (k : Int) < 200001:=by have:=HL.out;omega
   have hcall:=HP.out wr x (by rw [← hx];exact List.getElem_mem hlt) HB.out
   have HY : Hid (q x = true → idxR q l = (k : Int)):=fun h=>idxR_some hlt HH.out (by rw [hx];exact h)
   have HN : Hid (q x = false → (l.take (k + 1)).all (fun x=>!q x) = true):=fun h=>all_take (f:=fun x=>!q x) hlt HH.out (by rw [hx, h];rfl)
   clear hr hx
   cases hq : q x
   ·have HX:=HN.out hq
    rw [hq] at hcall
    have HX2:=Lib.hid HX
    clear HX HY HN
    go_wp2_with (first | ((with_reducible refine wpList_load_at 29 (.tmp 14) b (off + k * 4) (grCells x) HUF.out ?_ ?_ ?_ ?_ ?_);(exact rfl);(exact hcells.out);(exact rfl);(exact info_gr);simp only [z0, z1, z2, z3]))
    refine hcall.mono ?_
    rintro e w2 ⟨rfl, hb⟩
    have HB2 : Hid (Below w.heap.size w w2):=HB.out.trans (hb.mono HB.out.size)
    clear hb
    go_wp2_with fail
    go_roundw
    case rel=>exact ⟨k + 1, by omega, by go_num, HX2.out, HB2.out⟩
    case measure=>simp [intOf];omega
   ·have HX:=Lib.hid (HY.out hq)
    rw [hq] at hcall
    clear HY HN
    go_wp2_with (first | ((with_reducible refine wpList_load_at 29 (.tmp 14) b (off + k * 4) (grCells x) HUF.out ?_ ?_ ?_ ?_ ?_);(exact rfl);(exact hcells.out);(exact rfl);(exact info_gr);simp only [z0, z1, z2, z3]))
    refine hcall.mono ?_
    rintro e w2 ⟨rfl, hb⟩
    have HB2 : Hid (Below w.heap.size w w2):=HB.out.trans (hb.mono HB.out.size)
    clear hb
    go_wp2_with fail
    go_ret
    exact ⟨by rw [HX.out];rfl, HB2.out⟩
  ·obtain rfl : k = l.length:=by omega
   rw [List.take_length] at HH
   have HX:=Lib.hid (idxR_none HH.out)
   go_wp2_with fail
   go_ret
   exact ⟨by rw [HX.out];rfl, HB.out⟩
theorem idxR_nonneg {α : Type} (p : α → Bool) (l : List α) : decide (0 ≤ idxR p l) = l.any p:=by
 unfold idxR
 cases h : l.findIdx? p with
 | none =>
  rw [List.findIdx?_eq_none_iff] at h
  have : l.any p = false:=by rw [List.any_eq_false];intro x hx;simp [h x hx]
  rw [this];rfl
 | some i =>
  obtain ⟨hi, hx, _⟩:=List.findIdx?_eq_some_iff_getElem.1 h
  have : l.any p = true:=List.any_eq_true.2 ⟨_, List.getElem_mem hi, hx⟩
  rw [this]
  simp
set_option maxHeartbeats 4000000 in
theorem contains_any (g : Nat) (lb : Array Value) (q : Gr → Bool) (l : List Gr) (v : Value) (R : List Rng) (w : World) (eg : EntersF g) (hp : GrFn g lb q l w) (hv : GrRd v l R) (hR : RdIn w R) (hl : l.length ≤ 200000) :
  Calls Try.prog 64 #[v, .func (.func g) #[] lb] w fun e w'=>e = .returned (.bool (l.any q)) ∧ Below w.heap.size w w':=by
 have hIx:=idxGr_any g lb q l v R w eg hp hv hR hl
 have hd:=idxR_nonneg q l
 rw [← hd]
 generalize idxR q l = i at *
 clear hd hp hv hR hl eg
 go_enter Try.func64, Try.ntmps64
 go_wp2_with fail
 refine hIx.mono ?_
 rintro e w2 ⟨rfl, hb⟩
 clear hIx
 have HB:=Lib.hid hb
 clear hb
 go_wp2_with fail
 go_ret
 exact ⟨rfl, HB.out⟩
structure PosG (t : Gr) (l : List Gr) (i : Nat) : Prop where
 le : i ≤ l.length
 low : ∀ j (h : j < l.length), j < i → GLt l[j] t
 high : ∀ j (h : j < l.length), i ≤ j → ¬ GLt l[j] t
theorem GLt.notlt {a b c : Gr} (h : GLt a b) (k : ¬ GLt a c) : ¬ GLt b c:=fun h2=>k (h.trans h2)
def keyAt (l : List Gr) (i : Nat) (t : Gr) : Bool:=match l[i]? with | some x=>keyB x t.tx t.page t.slot | none=>false
set_option maxHeartbeats 8000000 in
theorem binSearch_any (t : Gr) (l : List Gr) (v : Value) (R : List Rng) (w : World) (hs : l.Pairwise GLt) (hv : GrRd v l R) (hR : RdIn w R) (hl : l.length ≤ 200000) :
  Calls Try.prog 91 #[v, .agg (grCells t).toArray, .func (.func 77) #[] #[]] w fun e w'=>∃ i : Nat, e = .returned (.tuple #[.int .i64 i, .bool (keyAt l i t)]) ∧ PosG t l i ∧ Below w.heap.size w w':=by
 obtain ⟨a, cap, rfl, hnc, hcm, hg⟩:=SlRd.open hv hR
 obtain ⟨fs, huf⟩:=under_gr
 have HUG:=Lib.hid huf
 have HC : Hid (l.length ≤ cap ∧ cap ≤ maxLen):=⟨hnc, hcm⟩
 have HL:=Lib.hid hl
 have HS:=Lib.hid hs
 have eg : ∀ args w, (callFunc 77 args).run Try.prog w = .ok (.enter 77 args) w:=enters_of Try.func77 (by kernel_rfl) rfl
 have HOr : Hid (∀ x W, Calls Try.prog 77 #[.agg (grCells x).toArray, .agg (grCells t).toArray] W fun e w'=>e = .returned (.int .i64 (ordI x t)) ∧ Below W.heap.size W w'):=fun x W=>order_any x t W
 have h1:=(Hp.start w).put 29 (grCells t)
 have HS0 : Hid (Hp w [.ob w.heap.size 29 (grCells t)] (w.alloc (.cells (grCells t).toArray 29))):=h1
 clear hv hR hnc hcm hl hs huf h1
 go_enter Try.func91, Try.ntmps91
 go_upto_region 1 with (fail)
 generalize (w.alloc (.cells (grCells t).toArray 29)) = w1 at *
 go_wp2_with fail
 go_loopw [9, 10] (fun si sj wr=>∃ i j : Nat, si = .int .i64 i ∧ sj = .int .i64 j ∧ i ≤ j ∧ j ≤ l.length ∧ (∀ k (h : k < l.length), k < i → GLt l[k] t) ∧ (∀ k (h : k < l.length), j ≤ k → ¬ GLt l[k] t) ∧ Hp w [.ob w.heap.size 29 (grCells t)] wr) (fun si sj _=>(intOf sj).toNat - (intOf si).toNat)
 case atStart=>exact ⟨0, l.length, rfl, rfl, by omega, by omega, fun k h hk=>absurd hk (Nat.not_lt_zero _), fun k h hk=>absurd hk (by omega), HS0.out⟩
 case round =>
  clear HS0
  obtain ⟨i, j, rfl, rfl, hij, hj, hlo, hhi, hsr⟩:=hrel
  have HLo:=Lib.hid hlo
  have HHi:=Lib.hid hhi
  have HIJ : Hid (i ≤ j ∧ j ≤ l.length):=⟨hij, hj⟩
  have HY:=Lib.hid hsr
  clear hlo hhi hsr
  by_cases hlt : i < j
  ·obtain ⟨h, hh⟩ : ∃ h, (i + j) / 2 = h:=⟨_, rfl⟩
   have hih : i ≤ h ∧ h < j:=by omega
   have hhl : h < l.length:=by omega
   obtain ⟨b, off, rfl, hr⟩:=hg.out (by omega)
   obtain ⟨y, hy⟩ : ∃ y, l[h]? = some y:=⟨_, List.getElem?_eq_getElem hhl⟩
   have HRow : Hid (∀ W, Below w.heap.size w W → W.rangeAt b (off + h * 4) (grCells y)):=fun W hb=>elem_rng (hr W hb) hy
   have hlm : (l.length : Int) < 200001:=by have:=HL.out;omega
   have hi1 : (i : Int) < (j : Int):=by omega
   have hw0 : IntKind.i64.wrap ((i : Int) + (j : Int)) = (i : Int) + (j : Int):=by rw [IntKind.wrap_i64];omega
   have hw1 : IntKind.u64.wrap ((i : Int) + (j : Int)) = (i : Int) + (j : Int):=by rw [IntKind.wrap_u64];omega
   have hw2 : ((i : Int) + (j : Int)) / 2 = (h : Int):=by omega
   have hw3 : IntKind.i64.wrap (h : Int) = (h : Int):=by rw [IntKind.wrap_i64];omega
   have hw4 : IntKind.u64.wrap (h : Int) = (h : Int):=by rw [IntKind.wrap_u64];omega
   have hh0 : (0 : Int) ≤ (h : Int):=by omega
   have hhl2 : (h : Int) < (l.length : Int):=by omega
   have hw5 : IntKind.i64.wrap ((h : Int) + 1) = (h : Int) + 1:=by rw [IntKind.wrap_i64];omega
   have HH : Hid (i ≤ h ∧ h < j ∧ h < l.length):=⟨hih.1, hih.2, hhl⟩
   have hyy : l[h] = y:=by rw [List.getElem?_eq_getElem hhl] at hy;exact Option.some.inj hy
   have hmono : Hid (∀ k (hk : k < l.length), k ≤ h → GLt y t → GLt l[k] t):=fun k hk hkh hyt=>by
    rcases Nat.lt_or_eq_of_le hkh with h1 | h1
    ·have:=List.pairwise_iff_getElem.1 HS.out k h hk hhl h1
     rw [hyy] at this;exact this.trans hyt
    ·subst h1;rw [hyy];exact hyt
   have hmono2 : Hid (∀ k (hk : k < l.length), h ≤ k → ¬ GLt y t → ¬ GLt l[k] t):=fun k hk hkh hyt=>by
    rcases Nat.lt_or_eq_of_le hkh with h1 | h1
    ·have:=List.pairwise_iff_getElem.1 HS.out h k hhl hk h1
     rw [hyy] at this;exact this.notlt hyt
    ·subst h1;rw [hyy];exact hyt
   have hor:=HOr.out y
   have hneg:=@ordI_neg y t
   clear hr hy hyy hg hih hh hhl HOr
   generalize ordI y t = o at *
   obtain ⟨q, hq⟩ : ∃ q, decide (o < 0) = q:=⟨_, rfl⟩
   go_upto_region 5 with (fail)
   refine wp_region_held_drew (S:=fun w'=>w'.rangeAt b (off + h * 4) (grCells y) ∧ w'.rangeAt w.heap.size 0 (grCells t)) (by kernel_rfl) (⟨HRow.out _ ((HY.out).drew).old, (fun j v hv=>by rw [Nat.zero_add];exact ((HY.out).drew).at 0 rfl j hv)⟩) (fun hHeld=>?_)
   refine tk 0 qPk3_0 (some 24) (v:=?q1v) (Or.inl ⟨by rfl, ?q1h⟩) hHeld ?q1r
   case q1h=>(intro _ h;clear h;go_simp;try with_reducible rfl)
   try simp only [z0, z1, z2, z3]
   refine tk 1 qPk3_1 (some 25) (v:=?q2v) (Or.inl ⟨by rfl, ?q2h⟩) hHeld ?q2r
   case q2h=>(intro _ h;clear h;go_simp;try with_reducible rfl)
   try simp only [z0, z1, z2, z3]
   refine tk 2 qPk3_2 (some 26) (v:=?q3v) (Or.inl ⟨by rfl, ?q3h⟩) hHeld ?q3r
   case q3h=>(intro _ h;clear h;go_simp;try with_reducible rfl)
   try simp only [z0, z1, z2, z3]
   refine tk 3 qPk3_3 (some 27) (v:=?q4v) (Or.inl ⟨by rfl, ?q4h⟩) hHeld ?q4r
   case q4h=>(intro _ h;clear h;go_simp;try with_reducible rfl)
   try simp only [z0, z1, z2, z3]
   refine tk 4 qPk3_4 (some 28) (yieldsIf_load_mid (by rfl) 29 (.tmp 27) rfl b (off + h * 4) rfl (grCells y) _ (fun _ h=>h.1) HUG.out rfl (info_gr)) hHeld ?_
   try simp only [z0, z1, z2, z3]
   refine tk 5 qPk3_5 (some 29) (yieldsIf_load_mid (by rfl) 29 (.tmp 4) rfl w.heap.size (0) rfl (grCells t) _ (fun _ h=>h.2) HUG.out rfl (info_gr)) hHeld ?_
   try simp only [z0, z1, z2, z3]
   refine tn 6 qPk3_6 (fun K hK=>?_)
   go_simp
   go_wp2_with fail
   refine (hor _).mono ?_
   rintro e w1 ⟨rfl, hb⟩
   have HS1 : Hid (Hp w [.ob (w.heap.size) 29 (grCells t)] w1):=((HY.out).drew).calls hb
   refine hK.out _ _ (⟨HRow.out _ (HS1.out).old, (fun j v hv=>by rw [Nat.zero_add];exact (HS1.out).at 0 rfl j hv)⟩) (fun hHeld=>?_)
   clear hK K hb
   try simp only [z0, z1, z2, z3]
   refine tk 7 qPk3_7 (some 31) (v:=.bool q) (Or.inl ⟨by rfl, ?q7h⟩) hHeld ?q7r
   case q7h=>(intro _ h;clear h;go_simp;try with_reducible rfl)
   try simp only [z0, z1, z2, z3]
   refine wpAnyH_done (by kernel_rfl) ?_ _
   clear hHeld hor hw0 hw1 hw2 hw3 hw4 hlm hi1
   cases q
   case true =>
    have HG:=Lib.hid (hneg.1 (of_decide_eq_true hq))
    clear hneg hq
    go_wp2_with fail
    go_roundw
    case rel=>exact ⟨h + 1, j, by go_num, rfl, by have:=HH.out;omega, HIJ.out.2, fun k hk hkh=>hmono.out k hk (by omega) HG.out, HHi.out, HS1.out⟩
    case measure=>have:=HH.out;simp [intOf];omega
   case false =>
    have HG:=Lib.hid (fun h=>of_decide_eq_false hq (hneg.2 h))
    clear hneg hq
    go_wp2_with fail
    go_roundw
    case rel=>exact ⟨i, h, rfl, rfl, HH.out.1, by have:=HH.out;omega, HLo.out, fun k hk hkh=>hmono2.out k hk hkh HG.out, HS1.out⟩
    case measure=>have:=HH.out;simp [intOf];omega
  ·obtain rfl : i = j:=by omega
   have HP : Hid (PosG t l i):=⟨hj, HLo.out, fun k hk hik=>HHi.out k hk hik⟩
   have hlm : (l.length : Int) < 200001:=by have:=HL.out;omega
   have hi0 : (0 : Int) ≤ (i : Int):=by omega
   by_cases hil : i < l.length
   ·obtain ⟨b, off, rfl, hr⟩:=hg.out (by omega)
    obtain ⟨y, hy⟩ : ∃ y, l[i]? = some y:=⟨_, List.getElem?_eq_getElem hil⟩
    have HRow : Hid (∀ W, Below w.heap.size w W → W.rangeAt b (off + i * 4) (grCells y)):=fun W hb=>elem_rng (hr W hb) hy
    have hi1 : (i : Int) < (l.length : Int):=by omega
    have hor:=HOr.out y
    have hzero:=@ordI_zero y t
    have HKey : Hid (keyAt l i t = keyB y t.tx t.page t.slot):=Lib.hid (by unfold keyAt;rw [hy])
    have HKb : Hid (keyB y t.tx t.page t.slot = decide (ordI y t = 0)):=Lib.hid (by rw [Bool.eq_iff_iff, keyB_iff, decide_eq_true_eq];exact hzero.symm)
    clear hr hy hg HOr hzero
    generalize ordI y t = o at *
    go_upto_region 8 with (fail)
    refine wp_region_held_drew (S:=fun w'=>w'.rangeAt b (off + i * 4) (grCells y) ∧ w'.rangeAt w.heap.size 0 (grCells t)) (by kernel_rfl) (⟨HRow.out _ ((HY.out).drew).old, (fun j v hv=>by rw [Nat.zero_add];exact ((HY.out).drew).at 0 rfl j hv)⟩) (fun hHeld=>?_)
    refine tk 0 qPk3_8 (some 35) (v:=?q101v) (Or.inl ⟨by rfl, ?q101h⟩) hHeld ?q101r
    case q101h=>(intro _ h;clear h;go_simp;try with_reducible rfl)
    try simp only [z0, z1, z2, z3]
    refine tk 1 qPk3_9 (some 36) (v:=?q102v) (Or.inl ⟨by rfl, ?q102h⟩) hHeld ?q102r
    case q102h=>(intro _ h;clear h;go_simp;try with_reducible rfl)
    try simp only [z0, z1, z2, z3]
    refine tk 2 qPk3_10 (some 37) (v:=?q103v) (Or.inl ⟨by rfl, ?q103h⟩) hHeld ?q103r
    case q103h=>(intro _ h;clear h;go_simp;try with_reducible rfl)
    try simp only [z0, z1, z2, z3]
    refine tk 3 qPk3_11 (some 38) (v:=.bool true) (Or.inl ⟨by rfl, ?q104h⟩) hHeld ?q104r
    case q104h=>(intro _ h;clear h;go_simp;try with_reducible rfl)
    try simp only [z0, z1, z2, z3]
    refine tk 4 qPk3_12 (some 39) (v:=?q105v) (Or.inl ⟨by rfl, ?q105h⟩) hHeld ?q105r
    case q105h=>(intro _ h;clear h;go_simp;try with_reducible rfl)
    try simp only [z0, z1, z2, z3]
    refine tk 5 qPk3_13 (some 40) (v:=?q106v) (Or.inl ⟨by rfl, ?q106h⟩) hHeld ?q106r
    case q106h=>(intro _ h;clear h;go_simp;try with_reducible rfl)
    try simp only [z0, z1, z2, z3]
    refine tk 6 qPk3_14 (some 41) (v:=?q107v) (Or.inl ⟨by rfl, ?q107h⟩) hHeld ?q107r
    case q107h=>(intro _ h;clear h;go_simp;try with_reducible rfl)
    try simp only [z0, z1, z2, z3]
    refine tk 7 qPk3_15 (some 42) (v:=?q108v) (Or.inl ⟨by rfl, ?q108h⟩) hHeld ?q108r
    case q108h=>(intro _ h;clear h;go_simp;try with_reducible rfl)
    try simp only [z0, z1, z2, z3]
    refine tk 8 qPk3_16 (some 43) (v:=?q109v) (Or.inl ⟨by rfl, ?q109h⟩) hHeld ?q109r
    case q109h=>(intro _ h;clear h;go_simp;try with_reducible rfl)
    try simp only [z0, z1, z2, z3]
    refine tk 9 qPk3_17 (some 44) (yieldsIf_load_mid (by rfl) 29 (.tmp 43) rfl b (off + i * 4) rfl (grCells y) _ (fun _ h=>h.1) HUG.out rfl (info_gr)) hHeld ?_
    try simp only [z0, z1, z2, z3]
    refine tk 10 qPk3_18 (some 45) (yieldsIf_load_mid (by rfl) 29 (.tmp 4) rfl w.heap.size (0) rfl (grCells t) _ (fun _ h=>h.2) HUG.out rfl (info_gr)) hHeld ?_
    try simp only [z0, z1, z2, z3]
    refine tn 11 qPk3_19 (fun K hK=>?_)
    go_simp
    go_wp2_with fail
    refine (hor _).mono ?_
    rintro e w1 ⟨rfl, hb⟩
    have HS1 : Hid (Hp w [.ob (w.heap.size) 29 (grCells t)] w1):=((HY.out).drew).calls hb
    refine hK.out _ _ (⟨HRow.out _ (HS1.out).old, (fun j v hv=>by rw [Nat.zero_add];exact (HS1.out).at 0 rfl j hv)⟩) (fun hHeld=>?_)
    clear hK K hb
    try simp only [z0, z1, z2, z3]
    refine tk 12 qPk3_20 (some 47) (v:=?q112v) (Or.inl ⟨by rfl, ?q112h⟩) hHeld ?q112r
    case q112h=>(intro _ h;clear h;go_simp;try with_reducible rfl)
    try simp only [z0, z1, z2, z3]
    refine tk 13 qPk3_21 (some 48) (v:=?q113v) (Or.inl ⟨by rfl, ?q113h⟩) hHeld ?q113r
    case q113h=>(intro _ h;clear h;go_simp;try with_reducible rfl)
    try simp only [z0, z1, z2, z3]
    refine tk 14 qPk3_22 (some 6) (v:=?q114v) (Or.inl ⟨by rfl, ?q114h⟩) hHeld ?q114r
    case q114h=>(intro _ h;clear h;go_simp;try with_reducible rfl)
    try simp only [z0, z1, z2, z3]
    refine tk 15 qPk3_23 (some 7) (v:=?q115v) (Or.inl ⟨by rfl, ?q115h⟩) hHeld ?q115r
    case q115h=>(intro _ h;clear h;go_simp;try with_reducible rfl)
    try simp only [z0, z1, z2, z3]
    refine wpAnyH_done (by kernel_rfl) ?_ _
    go_wp2_with fail
    clear hHeld hor
    exact bodyPost_ret (v:=.tuple #[.int .i64 i, .bool (o == 0)]) (by simp [results, Try.results91, go_sem]) rfl ⟨i, by rw [HKey.out, HKb.out, beq_dec'], HP.out, (HS1.out).old⟩
   ·have hi1 : ¬ (i : Int) < (l.length : Int):=by omega
    have HKey : Hid (keyAt l i t = false):=Lib.hid (by unfold keyAt;rw [List.getElem?_eq_none (by omega)])
    clear hg
    go_upto_region 8 with (fail)
    refine wp_region_held_drew (S:=fun w'=>True) (by kernel_rfl) (trivial) (fun hHeld=>?_)
    refine tk 0 qPk3_8 (some 35) (v:=?q201v) (Or.inl ⟨by rfl, ?q201h⟩) hHeld ?q201r
    case q201h=>(intro _ h;clear h;go_simp;try with_reducible rfl)
    try simp only [z0, z1, z2, z3]
    refine tk 1 qPk3_9 (some 36) (v:=?q202v) (Or.inl ⟨by rfl, ?q202h⟩) hHeld ?q202r
    case q202h=>(intro _ h;clear h;go_simp;try with_reducible rfl)
    try simp only [z0, z1, z2, z3]
    refine tk 2 qPk3_10 (some 37) (v:=?q203v) (Or.inl ⟨by rfl, ?q203h⟩) hHeld ?q203r
    case q203h=>(intro _ h;clear h;go_simp;try with_reducible rfl)
    try simp only [z0, z1, z2, z3]
    refine tk 3 qPk3_11 (some 38) (v:=.bool false) (Or.inl ⟨by rfl, ?q204h⟩) hHeld ?q204r
    case q204h=>(intro _ h;clear h;go_simp;try with_reducible rfl)
    try simp only [z0, z1, z2, z3]
    refine tk 4 qPk3_12 (some 39) (v:=?q205v) (Or.inl ⟨by rfl, ?q205h⟩) hHeld ?q205r
    case q205h=>(intro _ h;clear h;go_simp;try with_reducible rfl)
    try simp only [z0, z1, z2, z3]
    refine tk 5 qPk3_13 (some 40) (v:=undef) (Or.inr ⟨by rfl, rfl⟩) hHeld ?_
    try simp only [z0, z1, z2, z3]
    refine tk 6 qPk3_14 (some 41) (v:=undef) (Or.inr ⟨by rfl, rfl⟩) hHeld ?_
    try simp only [z0, z1, z2, z3]
    refine tk 7 qPk3_15 (some 42) (v:=undef) (Or.inr ⟨by rfl, rfl⟩) hHeld ?_
    try simp only [z0, z1, z2, z3]
    refine tk 8 qPk3_16 (some 43) (v:=undef) (Or.inr ⟨by rfl, rfl⟩) hHeld ?_
    try simp only [z0, z1, z2, z3]
    refine tk 9 qPk3_17 (some 44) (v:=undef) (Or.inr ⟨by rfl, rfl⟩) hHeld ?_
    try simp only [z0, z1, z2, z3]
    refine tk 10 qPk3_18 (some 45) (v:=undef) (Or.inr ⟨by rfl, rfl⟩) hHeld ?_
    try simp only [z0, z1, z2, z3]
    refine tk 11 qPk3_19 (some 46) (v:=undef) (Or.inr ⟨by rfl, rfl⟩) hHeld ?_
    try simp only [z0, z1, z2, z3]
    refine tk 12 qPk3_20 (some 47) (v:=undef) (Or.inr ⟨by rfl, rfl⟩) hHeld ?_
    try simp only [z0, z1, z2, z3]
    refine tk 13 qPk3_21 (some 48) (v:=?q214v) (Or.inl ⟨by rfl, ?q214h⟩) hHeld ?q214r
    case q214h=>(intro _ h;clear h;go_simp;try with_reducible rfl)
    try simp only [z0, z1, z2, z3]
    refine tk 14 qPk3_22 (some 6) (v:=?q215v) (Or.inl ⟨by rfl, ?q215h⟩) hHeld ?q215r
    case q215h=>(intro _ h;clear h;go_simp;try with_reducible rfl)
    try simp only [z0, z1, z2, z3]
    refine tk 15 qPk3_23 (some 7) (v:=?q216v) (Or.inl ⟨by rfl, ?q216h⟩) hHeld ?q216r
    case q216h=>(intro _ h;clear h;go_simp;try with_reducible rfl)
    try simp only [z0, z1, z2, z3]
    refine wpAnyH_done (by kernel_rfl) ?_ _
    go_wp2_with fail
    exact bodyPost_ret (v:=.tuple #[.int .i64 i, .bool false]) (by simp [results, Try.results91, go_sem]) rfl ⟨i, by rw [HKey.out], HP.out, ((HY.out).drew).old⟩

end Go.Proofs.Ytooaldglgkjjgaa
/- the program's place, mode, holders, upgrade (locks) -/
namespace Go.Proofs.Ytooaldglgkjjgaa
open Go.RowKit
open Go.Act renaming put → z0
open List renaming setIfInBounds_toArray → z1, set_cons_zero → z2, set_cons_succ → z3
set_option maxRecDepth 20000
set_option linter.unusedSimpArgs false
set_option linter.unusedVariables false

theorem pos_find {t : Gr} {l : List Gr} {i : Nat} (hs : l.Pairwise GLt) (h : PosG t l i) : findK l t.tx t.page t.slot = if keyAt l i t = true then l[i]? else none:=by
 by_cases hil : i < l.length
 ·have hx : l[i]? = some l[i]:=List.getElem?_eq_getElem hil
  have hk : keyAt l i t = keyB l[i] t.tx t.page t.slot:=by unfold keyAt;rw [hx]
  cases hkb : keyB l[i] t.tx t.page t.slot with
  | true =>
   rw [hk, hkb, if_pos rfl, hx]
   have h1:=keyB_iff.1 hkb
   have:=findK_mem hs (List.getElem_mem hil)
   rw [h1.1, h1.2.1, h1.2.2] at this
   exact this
  | false =>
   rw [hk, hkb, if_neg (by simp)]
   cases hf : findK l t.tx t.page t.slot with
   | none=>rfl
   | some x =>
    exfalso
    obtain ⟨hm, h1, h2, h3⟩:=findK_some hf
    obtain ⟨j, hj, rfl⟩:=List.getElem_of_mem hm
    rcases Nat.lt_trichotomy j i with hji | rfl | hji
    ·have:=h.low j hj hji;unfold GLt at this;omega
    ·have : keyB l[j] t.tx t.page t.slot = true:=keyB_iff.2 ⟨h1, h2, h3⟩
     rw [hkb] at this;cases this
    ·have h4:=List.pairwise_iff_getElem.1 hs i j hil hj hji
     have h5:=h.high i hil (Nat.le_refl _)
     unfold GLt at h4 h5;omega
 ·have hx : l[i]? = none:=List.getElem?_eq_none (by omega)
  have hk : keyAt l i t = false:=by unfold keyAt;rw [hx]
  rw [hk, if_neg (by simp)]
  cases hf : findK l t.tx t.page t.slot with
  | none=>rfl
  | some x =>
   exfalso
   obtain ⟨hm, h1, h2, h3⟩:=findK_some hf
   obtain ⟨j, hj, rfl⟩:=List.getElem_of_mem hm
   have:=h.low j hj (by omega);unfold GLt at this;omega
theorem build_pl (tx : Int) (k : Lok) (W : World) : Sem.run Try.prog (Instr.build 29 #[(0, .int .i64 tx), (1, .agg (lkCells k).toArray)]) W = .ok (.agg (grCells ⟨tx, k.page, k.slot, 0⟩).toArray) W:=by kernel_rfl
abbrev plG (tx : Int) (k : Lok) : Gr:=⟨tx, k.page, k.slot, 0⟩
def PlPost (l : List Gr) (t : Gr) (w : World) (e : Ending) (w' : World) : Prop:=∃ i : Nat, e = .returned (.tuple #[.int .i64 i, .bool (keyAt l i t)]) ∧ PosG t l i ∧ Below w.heap.size w w'
set_option maxHeartbeats 4000000 in
theorem place_any (tx : Int) (k : Lok) (l : List Gr) (v : Value) (R : List Rng) (w : World) (hs : l.Pairwise GLt) (hv : GrRd v l R) (hR : RdIn w R) (hl : l.length ≤ 200000) :
  Calls Try.prog 70 #[v, .int .i64 tx, .agg (lkCells k).toArray] w (PlPost l (plG tx k) w):=by
 have HBs : Hid (∀ W, Below w.heap.size w W → Calls Try.prog 91 #[v, .agg (grCells (plG tx k)).toArray, .func (.func 77) #[] #[]] W (PlPost l (plG tx k) W)):=fun W hb=>binSearch_any _ l v R W hs hv (hR.below hb) hl
 have h1:=(Hp.start w).put 27 (lkCells k)
 have HS0 : Hid (Hp w [.ob w.heap.size 27 (lkCells k)] (w.alloc (.cells (lkCells k).toArray 27))):=h1
 clear h1 hs hv hR hl
 obtain ⟨fs, hu⟩:=under_lk
 have HUK:=Lib.hid hu
 clear hu
 go_enter Try.func70, Try.ntmps70
 go_upto_region 1 with (fail)
 generalize (w.alloc (.cells (lkCells k).toArray 27)) = w1 at *
 go_wp2_with (first | ((with_reducible refine wpList_load_ob 27 (.tmp 5) w.heap.size (lkCells k) 27 HUK.out ?_ ?_ ?_ ?_ ?_);(exact rfl);(exact HS0.out.get 0 rfl);(exact rfl);(exact info_lk);simp only [z0, z1, z2, z3]) | ((with_reducible refine wpList_build_v (d:=some 11) 29 (.agg (grCells (plG tx k)).toArray) ?_ ?_);(intro W;simp only [List.map_toArray, List.map_cons, List.map_nil];exact build_pl tx k W);simp only [z0, z1, z2, z3]))
 refine (HBs.out _ HS0.out.old).mono ?_
 rintro e w2 ⟨i, rfl, hp, hb⟩
 have HP:=Lib.hid hp
 have HS1:=Lib.hid (HS0.out.calls hb)
 clear hp hb HS0 HBs
 go_wp2_with fail
 exact bodyPost_ret (v:=.tuple #[.int .i64 i, .bool (keyAt l i (plG tx k))]) (by simp [results, Try.results70, go_sem]) rfl ⟨i, rfl, HP.out, HS1.out.old⟩
set_option maxHeartbeats 4000000 in
theorem pmode_any (tx : Int) (k : Lok) (l : List Gr) (v : Value) (R : List Rng) (w : World) (hs : l.Pairwise GLt) (hv : GrRd v l R) (hR : RdIn w R) (hl : l.length ≤ 200000) :
  Calls Try.prog 44 #[v, .int .i64 tx, .agg (lkCells k).toArray] w fun e w'=>e = .returned (.int .i64 (modeR l tx k.page k.slot)) ∧ Below w.heap.size w w':=by
 have HPl : Hid (∀ W, Below w.heap.size w W → Calls Try.prog 70 #[v, .int .i64 tx, .agg (lkCells k).toArray] W (PlPost l (plG tx k) W)):=fun W hb=>place_any tx k l v R W hs hv (hR.below hb) hl
 obtain ⟨a, cap, rfl, hnc, hcm, hg⟩:=SlRd.open hv hR
 have h1:=(Hp.start w).put 27 (lkCells k)
 have HS0 : Hid (Hp w [.ob w.heap.size 27 (lkCells k)] (w.alloc (.cells (lkCells k).toArray 27))):=h1
 have HSo:=Lib.hid hs
 have HL:=Lib.hid hl
 clear h1 hs hv hR hl hnc hcm
 obtain ⟨fs, hu⟩:=under_lk
 have HUK:=Lib.hid hu
 clear hu
 have HM : Hid (modeR l tx k.page k.slot = (findK l tx k.page k.slot).elim 0 Gr.mode):=rfl
 go_enter Try.func44, Try.ntmps44
 go_upto_region 1 with (fail)
 generalize (w.alloc (.cells (lkCells k).toArray 27)) = w1 at *
 go_wp2_with (first | ((with_reducible refine wpList_load_ob 27 (.tmp 5) w.heap.size (lkCells k) 27 HUK.out ?_ ?_ ?_ ?_ ?_);(exact rfl);(exact HS0.out.get 0 rfl);(exact rfl);(exact info_lk);simp only [z0, z1, z2, z3]))
 refine (HPl.out _ HS0.out.old).mono ?_
 rintro e w2 ⟨i, rfl, hp, hb⟩
 have hf:=pos_find HSo.out hp
 have HS1:=Lib.hid (HS0.out.calls hb)
 simp only at hf
 clear hb HS0 HPl
 cases hq : keyAt l i (plG tx k)
 ·rw [hq] at hf
  have HV : Hid (modeR l tx k.page k.slot = 0):=Lib.hid (by rw [HM.out, hf];rfl)
  clear hf hp hg
  go_wp2_with fail
  go_ret
  exact ⟨by rw [HV.out];rfl, HS1.out.old⟩
 ·rw [hq, if_pos rfl] at hf
  have hil : i < l.length:=by
   rcases Nat.lt_or_ge i l.length with h | h
   ·exact h
   ·unfold keyAt at hq;rw [List.getElem?_eq_none h] at hq;cases hq
  obtain ⟨x, hx⟩ : ∃ x, l[i]? = some x:=⟨_, List.getElem?_eq_getElem hil⟩
  have HV : Hid (modeR l tx k.page k.slot = x.mode):=Lib.hid (by rw [HM.out, hf, hx];rfl)
  obtain ⟨g, off, rfl, hr⟩:=hg.out (by omega)
  have c3 : w2.cell? ⟨g, off + i * 4 + 3, none⟩ = some (.int .i64 x.mode):=by have:=hr w2 HS1.out.old (i * 4 + 3) _ (grRow_at l i x hx 3 _ rfl);exact this
  have hi1 : (i : Int) < (l.length : Int):=by omega
  have hi0 : (0 : Int) ≤ (i : Int):=by omega
  clear hf hp hg hr hx hq HM
  go_wp2_with fail
  go_ret
  exact ⟨by rw [HV.out];rfl, HS1.out.old⟩
set_option maxHeartbeats 4000000 in
theorem upgrade_any (g : Gr) (l : List Gr) (v : Value) (R : List Rng) (w : World) (hs : l.Pairwise GLt) (hv : GrRd v l R) (hR : RdIn w R) (hl : l.length ≤ 200000) :
  Calls Try.prog 74 #[v, .agg (grCells g).toArray] w fun e w'=>e = .returned (.bool (decide (0 < modeG l g))) ∧ Below w.heap.size w w':=by
 have HMo : Hid (∀ W, Below w.heap.size w W → Calls Try.prog 44 #[v, .int .i64 g.tx, .agg #[.int .i64 g.page, .int .i64 g.slot]] W fun e w'=>e = .returned (.int .i64 (modeG l g)) ∧ Below W.heap.size W w'):=fun W hb=>pmode_any g.tx g.lock l v R W hs hv (hR.below hb) hl
 have h1:=(Hp.start w).put 29 (grCells g)
 have HS0 : Hid (Hp w [.ob w.heap.size 29 (grCells g)] (w.alloc (.cells (grCells g).toArray 29))):=h1
 clear h1 hs hv hR hl
 go_enter Try.func74, Try.ntmps74
 go_upto_region 1 with (fail)
 generalize (w.alloc (.cells (grCells g).toArray 29)) = w1 at *
 have x0 : w1.cell? ⟨w.heap.size, 0, none⟩ = some (.int .i64 g.tx):=HS0.out.at 0 rfl 0 rfl
 have x1 : w1.cell? ⟨w.heap.size, 1, none⟩ = some (.int .i64 g.page):=HS0.out.at 0 rfl 1 rfl
 have x2 : w1.cell? ⟨w.heap.size, 2, none⟩ = some (.int .i64 g.slot):=HS0.out.at 0 rfl 2 rfl
 go_wp2_with fail
 refine (HMo.out _ HS0.out.old).mono ?_
 rintro e w2 ⟨rfl, hb⟩
 have HS1:=Lib.hid (HS0.out.calls hb)
 clear hb HS0 HMo x0 x1 x2
 go_wp2_with fail
 go_ret
 exact ⟨rfl, HS1.out.old⟩
theorem pos_le {t u : Gr} {l : List Gr} {p q : Nat} (h : PosG t l p) (k : PosG u l q) (htu : GLt t u) : p ≤ q:=by
 rcases Nat.lt_or_ge q p with h1 | h1
 ·exfalso
  have hq : q < l.length:=Nat.lt_of_lt_of_le h1 h.le
  exact k.high q hq (Nat.le_refl _) ((h.low q hq h1).trans htu)
 ·exact h1
theorem mem_part {t u x : Gr} {l : List Gr} {p q : Nat} (h : PosG t l p) (k : PosG u l q) (hx : x ∈ l) (h1 : GLt t x) (h2 : GLt x u) : x ∈ (l.take q).drop p:=by
 obtain ⟨j, hj, rfl⟩:=List.getElem_of_mem hx
 have hpj : p ≤ j:=by
  rcases Nat.lt_or_ge j p with h3 | h3
  ·exact absurd (h.low j hj h3) (fun h4=>h4.asymm h1)
  ·exact h3
 have hjq : j < q:=by
  rcases Nat.lt_or_ge j q with h3 | h3
  ·exact h3
  ·exact absurd h2 (k.high j hj h3)
 rw [List.mem_iff_getElem?]
 refine ⟨j - p, ?_⟩
 rw [List.getElem?_drop, List.getElem?_take, if_pos (by omega), show p + (j - p) = j from by omega, List.getElem?_eq_getElem hj]
theorem part_any {l : List Gr} {k : Lok} {p q : Nat} (hl : HeldOk l) (h : PosG (plG 0 k) l p) (h2 : PosG (plG 1073741825 k) l q) (g : Gr) (hg : g.page = k.page ∧ g.slot = k.slot) : ((l.take q).drop p).any (fun x=>confB g x) = l.any (fun x=>confB g x):=by
 rw [Bool.eq_iff_iff, List.any_eq_true, List.any_eq_true]
 constructor
 ·rintro ⟨x, hx, hc⟩
  exact ⟨x, List.mem_of_mem_take (List.mem_of_mem_drop hx), hc⟩
 ·rintro ⟨x, hx, hc⟩
  refine ⟨x, ?_, hc⟩
  have hcf:=confB_iff.1 hc
  have hok:=hl.ok x hx
  have e1:=hcf.2.1
  have e2:=hcf.2.2.1
  have:=hok.1
  refine mem_part h h2 hx ?_ ?_
  ·unfold GLt;simp only;omega
  ·unfold GLt;simp only;omega
def HoPost (l : List Gr) (k : Lok) (R : List Rng) (w : World) (e : Ending) (w' : World) : Prop :=
 ∃ v m R', e = .returned v ∧ GrRd v m R' ∧ RdIn w' R' ∧ (∀ r ∈ R', r.1 ∈ R.map (·.1)) ∧ m.length ≤ l.length ∧ (∀ x ∈ m, x ∈ l) ∧ (∀ g : Gr, g.page = k.page ∧ g.slot = k.slot → m.any (fun x=>confB g x) = l.any (fun x=>confB g x)) ∧ Below w.heap.size w w'
set_option maxHeartbeats 4000000 in
theorem holders_any (k : Lok) (l : List Gr) (v : Value) (R : List Rng) (w : World) (hs : HeldOk l) (hv : GrRd v l R) (hR : RdIn w R) (hl : l.length ≤ 200000) :
  Calls Try.prog 65 #[v, .agg (lkCells k).toArray] w (HoPost l k R w):=by
 have HPl : Hid (∀ tx W, Below w.heap.size w W → Calls Try.prog 70 #[v, .int .i64 tx, .agg (lkCells k).toArray] W (PlPost l (plG tx k) W)):=fun tx W hb=>place_any tx k l v R W hs.up hv (hR.below hb) hl
 obtain ⟨a, cap, rfl, hnc, hcm⟩:=GrRd.shape hv
 have h1:=(Hp.start w).put 27 (lkCells k)
 have HS0 : Hid (Hp w [.ob w.heap.size 27 (lkCells k)] (w.alloc (.cells (lkCells k).toArray 27))):=h1
 have HSo:=Lib.hid hs
 have HV:=Lib.hid hv
 have HR:=Lib.hid hR
 have HL:=Lib.hid hl
 clear h1 hs hv hR hl
 obtain ⟨fs, hu⟩:=under_lk
 have HUK:=Lib.hid hu
 clear hu
 go_enter Try.func65, Try.ntmps65
 go_upto_region 1 with (fail)
 generalize (w.alloc (.cells (lkCells k).toArray 27)) = w1 at *
 go_wp2_with (first | ((with_reducible refine wpList_load_ob 27 (.tmp 3) w.heap.size (lkCells k) 27 HUK.out ?_ ?_ ?_ ?_ ?_);(exact rfl);(exact HS0.out.get 0 rfl);(exact rfl);(exact info_lk);simp only [z0, z1, z2, z3]))
 refine (HPl.out 0 _ HS0.out.old).mono ?_
 rintro e w2 ⟨p, rfl, hp, hb⟩
 have HP:=Lib.hid hp
 have HS1:=Lib.hid (HS0.out.calls hb)
 clear hb HS0 hp
 go_wp2_with (first | ((with_reducible refine wpList_load_ob 27 (.tmp 3) w.heap.size (lkCells k) 27 HUK.out ?_ ?_ ?_ ?_ ?_);(exact rfl);(exact HS1.out.get 0 rfl);(exact rfl);(exact info_lk);simp only [z0, z1, z2, z3]))
 refine (HPl.out 1073741825 _ HS1.out.old).mono ?_
 rintro e w3 ⟨q, rfl, hq, hb⟩
 have HQ:=Lib.hid hq
 have HS2:=Lib.hid (HS1.out.calls hb)
 have hpq : p ≤ q:=pos_le HP.out hq (.inr ⟨rfl, .inr ⟨rfl, by show (0 : Int) < 1073741825;decide⟩⟩)
 have hql : q ≤ l.length:=hq.le
 obtain ⟨R1, h2, h3, h4⟩:=gr_take HV.out q hql
 have hlen : (l.take q).length = q:=by rw [List.length_take];omega
 rw [show (Value.slice a q cap) = .slice a (l.take q).length cap from by rw [hlen]] at h2
 obtain ⟨R2, h5, h6, h7⟩:=gr_drop h2 p (by omega)
 rw [hlen] at h5
 have HE : Hid (HoPost l k R w (.returned (.slice (if cap = p then a else Option.map (fun x=>Addr.add x (p * 4)) a) (q - p) (cap - p))) w3):=by
  refine ⟨_, (l.take q).drop p, R2, rfl, h5, h6 _ (h3 _ (HR.out.below HS2.out.old)), fun r hr=>?_, by rw [List.length_drop, hlen];omega, fun x hx=>List.mem_of_mem_take (List.mem_of_mem_drop hx), fun g hg=>part_any HSo.out HP.out HQ.out g hg, HS2.out.old⟩
  obtain ⟨r2, hr2, e2⟩:=List.mem_map.1 (h7 r hr)
  rw [← e2]
  exact h4 r2 hr2
 have hp0 : (0 : Int) ≤ (p : Int):=by omega
 have hpq' : (p : Int) ≤ (q : Int):=by omega
 have hql' : (q : Int) ≤ (l.length : Int):=by omega
 have hlc : (l.length : Int) ≤ (cap : Int):=by omega
 have hqc : (q : Int) ≤ (cap : Int):=by omega
 have hpc : (p : Int) ≤ (cap : Int):=by omega
 clear hb HS1 hq HPl h2 h3 h4 h5 h6 h7 hlen hpq hql
 by_cases hcp : cap = p
 ·have HE2 : Hid (HoPost l k R w (.returned (.slice a (q - p) 0)) w3):=Lib.hid (by have h:=HE.out;rw [if_pos hcp, hcp, Nat.sub_self] at h;exact h)
  clear HE
  subst hcp
  go_wp2_with fail
  go_ret
  exact HE2.out
 ·have HE2 : Hid (HoPost l k R w (.returned (.slice (Option.map (fun x=>Addr.add x (p * 4)) a) (q - p) (cap - p))) w3):=Lib.hid (by have h:=HE.out;rw [if_neg hcp] at h;exact h)
  clear HE
  go_wp2_with fail
  go_ret
  exact HE2.out
end Go.Proofs.Ytooaldglgkjjgaa
