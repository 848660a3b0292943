/- texts of a claim, one after the other: the program's size and validHeld (locks), a set of numbers in a map that the walk has made: which numbers it has, the program's validWaiting (locks), the program's Valid, Mode, Waiting (locks), what the program makes to find grants; what a transaction waits for; where a request goes (locks), the program's waiting and Waiting (locks), who waits for whom, as values: what the functions of chapter 9 answer, and what follows of it, sorted and without repetitions: what a list of numbers is then; for whom one waits, sorted, faults and devices as values, and what the functions of chapter 4 answer, the walk of the reference's 'has', the walks of the reference's lists of numbers, the walk of the reference's 'with', cycles of those who wait, as values: what Cycle and Would answer, and when there is none, the reference's list of numbers of chapter 9: with; what a call hands back, the reference's For of chapter 9, the program's conflict and what finds who waits (waits), the library's sort and its compaction at this program (the shelf's contracts, laid), for slices of one's own, the reference's Waiters and Ints of chapter 9 -/
import Derived.Test.YtooaldglgkjjgaaWf1
import Derived.Test.YtooaldglgkjjgaaWf3
import Derived.Maps.Own
import Derived.Maps.OwnSet
import Derived.Deep.CutBlock
import Derived.Lib.SlicesCompact
import Derived.DeepKeys
import Derived.Test.YtooaldglgkjjgaaWf2
import Derived.Shelf.Sort.Plain
import Derived.Shelf.Slices.CompactI
import Derived.Shelf.Slices.In.SortNone
import Derived.Lib.OwnBridge
/- the program's size and validHeld (locks) -/
namespace Go.Proofs.Ytooaldglgkjjgaa
open Go.RowKit
open Go.Act renaming put → z0
open List renaming setIfInBounds_toArray → z1, set_cons_zero → z2, set_cons_succ → z3
set_option maxRecDepth 20000
set_option linter.unusedSimpArgs false
set_option linter.unusedVariables false

theorem adj_free {a : List Gr} {x y : Gr} (h : HeldOk a) (hy : a.getLast? = some y) (hu : GLt y x) (hc : ¬ Conf y x) : ∀ z ∈ a, ¬ Conf z x:=by
 obtain ⟨b, rfl⟩ : ∃ b, a = b ++ [y]:=by
  rw [List.getLast?_eq_some_iff] at hy
  exact hy
 intro z hz hcf
 rcases List.mem_append.1 hz with hz | hz
 ·have h1:=(List.pairwise_append.1 h.up).2.2 z hz y (by simp)
  have h2:=(List.pairwise_append.1 h.free).2.2 z hz y (by simp)
  unfold Conf at h2 hc hcf
  unfold GLt at h1 hu
  omega
 ·obtain rfl : z = y:=by simpa using hz
  exact hc hcf
noncomputable def heldB (l : List Gr) : Bool:=@decide (HeldOk l) (Classical.propDecidable _)
theorem heldB_iff {l : List Gr} : heldB l = true ↔ HeldOk l:=@decide_eq_true_iff _ (Classical.propDecidable _)
theorem heldB_no {l : List Gr} (h : ¬ HeldOk l) : heldB l = false:=by
 cases e : heldB l with
 | false=>rfl
 | true=>exact absurd (heldB_iff.1 e) h
theorem heldB_yes {l : List Gr} (h : HeldOk l) : heldB l = true:=heldB_iff.2 h
theorem h_grant {l : List Gr} {i : Nat} {x : Gr} (hx : l[i]? = some x) (h : grOkB x = false) : heldB l = false:=heldB_no fun k=>by
 have:=grOkB_iff.2 (k.ok x (List.mem_of_getElem? hx));rw [h] at this;cases this
theorem h_less {l : List Gr} {i p : Nat} {x y : Gr} (hx : l[i]? = some x) (hip : i = p + 1) (hy : l[p]? = some y) (h : ¬ GLt y x) : heldB l = false:=heldB_no fun k=>by
 obtain ⟨h1, rfl⟩:=List.getElem?_eq_some_iff.1 hx
 obtain ⟨h2, rfl⟩:=List.getElem?_eq_some_iff.1 hy
 exact h (List.pairwise_iff_getElem.1 k.up p i h2 h1 (by omega))
theorem h_conf {l : List Gr} {i p : Nat} {x y : Gr} (hx : l[i]? = some x) (hip : i = p + 1) (hy : l[p]? = some y) (h : Conf y x) : heldB l = false:=heldB_no fun k=>by
 obtain ⟨h1, rfl⟩:=List.getElem?_eq_some_iff.1 hx
 obtain ⟨h2, rfl⟩:=List.getElem?_eq_some_iff.1 hy
 exact (List.pairwise_iff_getElem.1 k.free p i h2 h1 (by omega)) h
abbrev qPk5_0 : Oper:={ dst:=some 12, op:=Op.load 29 (Operand.tmp 4), type:=29, pos := "locks.go:60", after:=#[], guard:=none }
abbrev qPk5_1 : Oper:={ dst:=some 13, op:=Op.call { callee:=Callee.value (Operand.func 43), args:=#[Operand.tmp 12], argTypes:=#[29] }, type:=4, pos := "locks.go:60", after:=#[{ on:=0, ground:=Ground.data }], guard:=none }
abbrev qPk5_2 : Oper:={ dst:=some 14, op:=Op.unOp UnOp.not 4 (Operand.tmp 13), type:=4, pos := "locks.go:60", after:=#[{ on:=1, ground:=Ground.data }], guard:=none }
abbrev qPk5_3 : Oper:={ dst:=some 15, op:=Op.move (Operand.tmp 14), type:=4, pos := "locks.go:60", after:=#[{ on:=2, ground:=Ground.data }, { on:=1, ground:=Ground.chain }], guard:=none }
abbrev qPk5_4 : Oper:={ dst:=some 16, op:=Op.move (Operand.tmp 3), type:=3, pos := "locks.go:60", after:=#[{ on:=3, ground:=Ground.guard }], guard:=some (3, false) }
abbrev qPk5_5 : Oper:={ dst:=some 17, op:=Op.binOp BinOp.gtr 3 (Operand.tmp 16) (Operand.const (Value.int IntKind.i64 0)) 3, type:=4, pos := "locks.go:60", after:=#[{ on:=4, ground:=Ground.data }, { on:=3, ground:=Ground.guard }], guard:=some (3, false) }
abbrev qPk5_6 : Oper:={ dst:=some 18, op:=Op.move (Operand.tmp 17), type:=4, pos := "locks.go:60", after:=#[{ on:=5, ground:=Ground.data }, { on:=3, ground:=Ground.chain }, { on:=3, ground:=Ground.guard }], guard:=some (3, false) }
abbrev qPk5_7 : Oper:={ dst:=some 19, op:=Op.move (Operand.tmp 0), type:=23, pos := "locks.go:60", after:=#[{ on:=6, ground:=Ground.guard }], guard:=some (6, true) }
abbrev qPk5_8 : Oper:={ dst:=some 20, op:=Op.move (Operand.tmp 3), type:=3, pos := "locks.go:60", after:=#[{ on:=6, ground:=Ground.guard }], guard:=some (6, true) }
abbrev qPk5_9 : Oper:={ dst:=some 21, op:=Op.binOp BinOp.sub 3 (Operand.tmp 20) (Operand.const (Value.int IntKind.i64 1)) 3, type:=3, pos := "locks.go:60", after:=#[{ on:=8, ground:=Ground.data }, { on:=6, ground:=Ground.guard }], guard:=some (6, true) }
abbrev qPk5_10 : Oper:={ dst:=some 22, op:=Op.indexAddr 23 (Operand.tmp 19) (Operand.tmp 21), type:=0, pos := "locks.go:60", after:=#[{ on:=7, ground:=Ground.data }, { on:=9, ground:=Ground.data }, { on:=6, ground:=Ground.guard }], guard:=some (6, true) }
abbrev qPk5_11 : Oper:={ dst:=some 23, op:=Op.load 29 (Operand.tmp 22), type:=29, pos := "locks.go:60", after:=#[{ on:=10, ground:=Ground.data }, { on:=6, ground:=Ground.guard }], guard:=some (6, true) }
abbrev qPk5_12 : Oper:={ dst:=some 24, op:=Op.load 29 (Operand.tmp 4), type:=29, pos := "locks.go:60", after:=#[{ on:=6, ground:=Ground.guard }], guard:=some (6, true) }
abbrev qPk5_13 : Oper:={ dst:=some 25, op:=Op.call { callee:=Callee.value (Operand.func 77), args:=#[Operand.tmp 23, Operand.tmp 24], argTypes:=#[29, 29] }, type:=3, pos := "locks.go:60", after:=#[{ on:=11, ground:=Ground.data }, { on:=12, ground:=Ground.data }, { on:=6, ground:=Ground.chain }, { on:=6, ground:=Ground.guard }], guard:=some (6, true) }
abbrev qPk5_14 : Oper:={ dst:=some 26, op:=Op.binOp BinOp.geq 3 (Operand.tmp 25) (Operand.const (Value.int IntKind.i64 0)) 3, type:=4, pos := "locks.go:60", after:=#[{ on:=13, ground:=Ground.data }, { on:=6, ground:=Ground.guard }], guard:=some (6, true) }
abbrev qPk5_15 : Oper:={ dst:=some 27, op:=Op.move (Operand.tmp 26), type:=4, pos := "locks.go:60", after:=#[{ on:=14, ground:=Ground.data }, { on:=13, ground:=Ground.chain }, { on:=6, ground:=Ground.guard }], guard:=some (6, true) }
abbrev qPk5_16 : Oper:={ dst:=some 28, op:=Op.move (Operand.tmp 0), type:=23, pos := "locks.go:60", after:=#[{ on:=15, ground:=Ground.guard }], guard:=some (15, false) }
abbrev qPk5_17 : Oper:={ dst:=some 29, op:=Op.move (Operand.tmp 3), type:=3, pos := "locks.go:60", after:=#[{ on:=15, ground:=Ground.guard }], guard:=some (15, false) }
abbrev qPk5_18 : Oper:={ dst:=some 30, op:=Op.binOp BinOp.sub 3 (Operand.tmp 29) (Operand.const (Value.int IntKind.i64 1)) 3, type:=3, pos := "locks.go:60", after:=#[{ on:=17, ground:=Ground.data }, { on:=15, ground:=Ground.guard }], guard:=some (15, false) }
abbrev qPk5_19 : Oper:={ dst:=some 31, op:=Op.indexAddr 23 (Operand.tmp 28) (Operand.tmp 30), type:=0, pos := "locks.go:60", after:=#[{ on:=16, ground:=Ground.data }, { on:=18, ground:=Ground.data }, { on:=15, ground:=Ground.guard }], guard:=some (15, false) }
abbrev qPk5_20 : Oper:={ dst:=some 32, op:=Op.load 29 (Operand.tmp 31), type:=29, pos := "locks.go:60", after:=#[{ on:=19, ground:=Ground.data }, { on:=15, ground:=Ground.guard }], guard:=some (15, false) }
abbrev qPk5_21 : Oper:={ dst:=some 33, op:=Op.load 29 (Operand.tmp 4), type:=29, pos := "locks.go:60", after:=#[{ on:=15, ground:=Ground.guard }], guard:=some (15, false) }
abbrev qPk5_22 : Oper:={ dst:=some 34, op:=Op.call { callee:=Callee.value (Operand.func 78), args:=#[Operand.tmp 32, Operand.tmp 33], argTypes:=#[29, 29] }, type:=4, pos := "locks.go:60", after:=#[{ on:=20, ground:=Ground.data }, { on:=21, ground:=Ground.data }, { on:=15, ground:=Ground.chain }, { on:=15, ground:=Ground.guard }], guard:=some (15, false) }
abbrev qPk5_23 : Oper:={ dst:=some 35, op:=Op.pick (Operand.tmp 27) (Operand.const (Value.bool true)) (Operand.tmp 34), type:=4, pos := "locks.go:60", after:=#[{ on:=15, ground:=Ground.data }, { on:=22, ground:=Ground.data }, { on:=6, ground:=Ground.guard }], guard:=some (6, true) }
abbrev qPk5_24 : Oper:={ dst:=some 36, op:=Op.pick (Operand.tmp 18) (Operand.tmp 35) (Operand.const (Value.bool false)), type:=4, pos := "locks.go:60", after:=#[{ on:=6, ground:=Ground.data }, { on:=23, ground:=Ground.data }, { on:=3, ground:=Ground.guard }], guard:=some (3, false) }
abbrev qPk5_25 : Oper:={ dst:=some 37, op:=Op.pick (Operand.tmp 15) (Operand.const (Value.bool true)) (Operand.tmp 36), type:=4, pos := "locks.go:60", after:=#[{ on:=3, ground:=Ground.data }, { on:=24, ground:=Ground.data }], guard:=none }
set_option maxHeartbeats 4000000 in
theorem size_any {h v : Value} {t : Tb} {R : List Rng} (w : World) (ht : TbRd h v t R) (hg : GoodTb t) :
  Calls Try.prog 45 #[.agg (tbCells h v).toArray] w fun e w'=>e = .returned (.int .i64 ((t.held.length : Int) + (t.wait.length : Int))) ∧ Below w.heap.size w w':=by
 obtain ⟨a, cap, rfl, hnc, hcm⟩:=ht.1.shape
 obtain ⟨a2, cap2, rfl, hnc2, hcm2⟩:=ht.2.shape
 have h1:=(Hp.start w).put 25 (tbCells (.slice a t.held.length cap) (.slice a2 t.wait.length cap2))
 have HS0 : Hid (Hp w [.ob w.heap.size 25 (tbCells (.slice a t.held.length cap) (.slice a2 t.wait.length cap2))] (w.alloc (.cells (tbCells (.slice a t.held.length cap) (.slice a2 t.wait.length cap2)).toArray 25))):=h1
 have hfew:=hg.few
 have hsum : IntKind.i64.wrap ((t.held.length : Int) + (t.wait.length : Int)) = (t.held.length : Int) + (t.wait.length : Int):=IntWalk.i64_in _ (by omega)
 clear h1 ht hg hfew
 go_enter Try.func45, Try.ntmps45
 go_upto_region 1 with (fail)
 generalize (w.alloc (.cells (tbCells (.slice a t.held.length cap) (.slice a2 t.wait.length cap2)).toArray 25)) = w1 at *
 have b0 : w1.cell? ⟨w.heap.size, 0, none⟩ = some (.slice a t.held.length cap):=HS0.out.at 0 rfl 0 rfl
 have b1 : w1.cell? ⟨w.heap.size, 1, none⟩ = some (.slice a2 t.wait.length cap2):=HS0.out.at 0 rfl 1 rfl
 go_wp2_with fail
 go_ret
 exact ⟨rfl, HS0.out.old⟩
set_option maxHeartbeats 8000000 in
theorem validHeld_any (l : List Gr) (v : Value) (R : List Rng) (w : World) (hv : GrRd v l R) (hR : RdIn w R) (hgo : ∀ g ∈ l, GoodGr g) (hl : l.length ≤ 100000) :
  Calls Try.prog 55 #[v] w fun e w'=>e = .returned (.bool (heldB l)) ∧ Below w.heap.size w w':=by
 obtain ⟨a, cap, rfl, hnc, hcm, hg0⟩:=SlRd.open hv hR
 have HGe:=Lib.hid hgo
 have HNg : Hid (∀ (i : Nat) (x : Gr), l[i]? = some x → grOkB x = false → heldB l = false):=fun i x=>h_grant
 have HNl : Hid (∀ (i p : Nat) (x y : Gr), l[i]? = some x → i = p + 1 → l[p]? = some y → ¬ GLt y x → heldB l = false):=fun i p x y=>h_less
 have HNc : Hid (∀ (i p : Nat) (x y : Gr), l[i]? = some x → i = p + 1 → l[p]? = some y → Conf y x → heldB l = false):=fun i p x y=>h_conf
 have HYes : Hid (HeldOk l → heldB l = true):=heldB_yes
 have HN : Hid ((l.length : Int) ≤ 100000):=Lib.hid (by omega)
 have HS0:=Lib.hid (Hp.start w)
 clear hv hR hgo hl hnc hcm
 obtain ⟨fs, hu⟩:=under_gr
 have HUG:=Lib.hid hu
 clear hu
 generalize heldB l = ok at *
 go_enter Try.func55, Try.ntmps55
 go_wp2_with fail
 go_loopw [7] (fun iv wr=>∃ i : Nat, i ≤ l.length ∧ iv = .int .i64 i ∧ HeldOk (l.take i) ∧ Hp w [] wr) (fun iv _=>l.length - (intOf iv).toNat)
 case atStart=>exact ⟨0, by omega, rfl, heldOk_nil, HS0.out⟩
 case round =>
  clear HS0
  obtain ⟨i, hi, rfl, hh, hs⟩:=hrel
  have HY:=Lib.hid hs
  have HH:=Lib.hid hh
  clear hs hh
  by_cases hlt : i < l.length
  ·obtain ⟨g, off, rfl, hr⟩:=hg0.out (by omega)
   have HRg:=Lib.hid hr
   obtain ⟨x, hx⟩ : ∃ x, l[i]? = some x:=⟨_, List.getElem?_eq_getElem hlt⟩
   have HXi:=Lib.hid hx
   have HGx:=Lib.hid (HGe.out x (List.mem_of_getElem? hx))
   have HGr : Hid (∀ W, Calls Try.prog 43 #[.agg (grCells x).toArray] W fun e w'=>e = .returned (.bool (grOkB x)) ∧ Below W.heap.size W w'):=fun W=>pgrant_any x W
   have HOx:=Lib.hid (@grOkB_iff x)
   have hNx:=HNg.out i x hx
   have hii : (i : Int) < (l.length : Int):=by omega
   have hi0 : (0 : Int) ≤ (i : Int):=by omega
   have hiw : IntKind.i64.wrap ((i : Int) + 1) = (i : Int) + 1:=IntWalk.i64_in _ (by have:=HN.out;omega)
   have HLt:=Lib.hid hlt
   clear hr hi hx hg0
   go_upto_region 4 with (first | ((with_reducible refine wpList_load_at 29 (.tmp 10) g ((off + i * 4)) (grCells x) HUG.out ?_ ?_ ?_ ?_ ?_);(exact rfl);(exact (elem_rng (HRg.out _ (HY.out).old) HXi.out));(exact rfl);(exact info_gr);simp only [z0, z1, z2, z3]) | ((with_reducible refine wpList_alloc_ob 29 (grCells grNil) ?_ ?_);(exact alloc_gr);simp only [z0, z1, z2, z3]) | ((with_reducible refine wpList_store_ob 29 (.tmp 4) (wr.heap.size) (grCells x) (grCells grNil) 29 ?_ ?_ ?_ ?_ ?_ ?_ ?_);(exact rfl);(exact rfl);(exact ((HY.out).put 29 (grCells grNil)).get 0 rfl);(exact info_gr);(exact rfl);(exact (oneCell_gr _));skip))
   have HS21 : Hid (Hp w [.ob (wr.heap.size) 29 (grCells x)] ((wr.alloc (.cells (grCells grNil).toArray 29)).setRow (wr.heap.size) (grCells x).toArray)):=((HY.out).put 29 (grCells grNil)).row 0 rfl (grCells x)
   clear HY
   generalize ((wr.alloc (.cells (grCells grNil).toArray 29)).setRow (wr.heap.size) (grCells x).toArray) = w21 at *
   generalize wr.heap.size = B21 at *
   generalize grOkB x = gb at *
   cases gb
   case false =>
    have HX:=Lib.hid (hNx rfl)
    clear hNx HOx
    refine wp_region_held_drew (S:=fun w'=>w'.rangeAt B21 0 (grCells x)) (by kernel_rfl) ((fun j v hv=>by rw [Nat.zero_add];exact ((HS21.out).drew).at 0 rfl j hv)) (fun hHeld=>?_)
    refine tk 0 qPk5_0 (some 12) (yieldsIf_load_mid (by rfl) 29 (.tmp 4) rfl B21 (0) rfl (grCells x) _ (fun _ h=>h) HUG.out rfl (info_gr)) hHeld ?_
    try simp only [z0, z1, z2, z3]
    refine tn 1 qPk5_1 (fun K hK=>?_)
    go_simp
    go_wp2_with (go_at_call 43;refine (HGr.out _).mono ?_;rintro e w61 ⟨rfl, hb⟩)
    have HS61:=Lib.hid (((HS21.out).drew).calls hb)
    refine hK.out _ _ ((fun j v hv=>by rw [Nat.zero_add];exact (HS61.out).at 0 rfl j hv)) (fun hHeld=>?_)
    clear hK K hb
    try simp only [z0, z1, z2, z3]
    refine tk 2 qPk5_2 (some 14) (v:=.bool true) (Or.inl ⟨by rfl, ?q102h⟩) hHeld ?q102r
    case q102h=>(intro _ h;clear h;go_simp;try with_reducible rfl)
    try simp only [z0, z1, z2, z3]
    refine tk 3 qPk5_3 (some 15) (v:=.bool true) (Or.inl ⟨by rfl, ?q103h⟩) hHeld ?q103r
    case q103h=>(intro _ h;clear h;go_simp;try with_reducible rfl)
    try simp only [z0, z1, z2, z3]
    refine tk 4 qPk5_4 (some 16) (v:=undef) (Or.inr ⟨by rfl, rfl⟩) hHeld ?_
    try simp only [z0, z1, z2, z3]
    refine tk 5 qPk5_5 (some 17) (v:=undef) (Or.inr ⟨by rfl, rfl⟩) hHeld ?_
    try simp only [z0, z1, z2, z3]
    refine tk 6 qPk5_6 (some 18) (v:=undef) (Or.inr ⟨by rfl, rfl⟩) hHeld ?_
    try simp only [z0, z1, z2, z3]
    refine tk 7 qPk5_7 (some 19) (v:=undef) (Or.inr ⟨by rfl, rfl⟩) hHeld ?_
    try simp only [z0, z1, z2, z3]
    refine tk 8 qPk5_8 (some 20) (v:=undef) (Or.inr ⟨by rfl, rfl⟩) hHeld ?_
    try simp only [z0, z1, z2, z3]
    refine tk 9 qPk5_9 (some 21) (v:=undef) (Or.inr ⟨by rfl, rfl⟩) hHeld ?_
    try simp only [z0, z1, z2, z3]
    refine tk 10 qPk5_10 (some 22) (v:=undef) (Or.inr ⟨by rfl, rfl⟩) hHeld ?_
    try simp only [z0, z1, z2, z3]
    refine tk 11 qPk5_11 (some 23) (v:=undef) (Or.inr ⟨by rfl, rfl⟩) hHeld ?_
    try simp only [z0, z1, z2, z3]
    refine tk 12 qPk5_12 (some 24) (v:=undef) (Or.inr ⟨by rfl, rfl⟩) hHeld ?_
    try simp only [z0, z1, z2, z3]
    refine tn 13 qPk5_13 (fun K hK=>?_)
    rw [if_neg (by exact Bool.false_ne_true)]
    have HS62:=HS61
    refine hK.out _ _ ((fun j v hv=>by rw [Nat.zero_add];exact (HS62.out).at 0 rfl j hv)) (fun hHeld=>?_)
    clear hK K
    try simp only [z0, z1, z2, z3]
    refine tk 14 qPk5_14 (some 26) (v:=undef) (Or.inr ⟨by rfl, rfl⟩) hHeld ?_
    try simp only [z0, z1, z2, z3]
    refine tk 15 qPk5_15 (some 27) (v:=undef) (Or.inr ⟨by rfl, rfl⟩) hHeld ?_
    try simp only [z0, z1, z2, z3]
    refine tk 16 qPk5_16 (some 28) (v:=undef) (Or.inr ⟨by rfl, rfl⟩) hHeld ?_
    try simp only [z0, z1, z2, z3]
    refine tk 17 qPk5_17 (some 29) (v:=undef) (Or.inr ⟨by rfl, rfl⟩) hHeld ?_
    try simp only [z0, z1, z2, z3]
    refine tk 18 qPk5_18 (some 30) (v:=undef) (Or.inr ⟨by rfl, rfl⟩) hHeld ?_
    try simp only [z0, z1, z2, z3]
    refine tk 19 qPk5_19 (some 31) (v:=undef) (Or.inr ⟨by rfl, rfl⟩) hHeld ?_
    try simp only [z0, z1, z2, z3]
    refine tk 20 qPk5_20 (some 32) (v:=undef) (Or.inr ⟨by rfl, rfl⟩) hHeld ?_
    try simp only [z0, z1, z2, z3]
    refine tk 21 qPk5_21 (some 33) (v:=undef) (Or.inr ⟨by rfl, rfl⟩) hHeld ?_
    try simp only [z0, z1, z2, z3]
    refine tn 22 qPk5_22 (fun K hK=>?_)
    rw [if_neg (by exact Bool.false_ne_true)]
    have HS63:=HS62
    refine hK.out _ _ ((fun j v hv=>by rw [Nat.zero_add];exact (HS63.out).at 0 rfl j hv)) (fun hHeld=>?_)
    clear hK K
    try simp only [z0, z1, z2, z3]
    refine tk 23 qPk5_23 (some 35) (v:=undef) (Or.inr ⟨by rfl, rfl⟩) hHeld ?_
    try simp only [z0, z1, z2, z3]
    refine tk 24 qPk5_24 (some 36) (v:=undef) (Or.inr ⟨by rfl, rfl⟩) hHeld ?_
    try simp only [z0, z1, z2, z3]
    refine tk 25 qPk5_25 (some 37) (v:=?q123v) (Or.inl ⟨by rfl, ?q123h⟩) hHeld ?q123r
    case q123h=>(intro _ h;clear h;go_simp;try with_reducible rfl)
    try simp only [z0, z1, z2, z3]
    refine wpAnyH_done (by kernel_rfl) ?_ _
    clear hHeld
    go_wp2_with fail
    go_ret
    exact ⟨by rw [HX.out];rfl, (HS63.out).old⟩
   case true =>
    have HOk1:=Lib.hid (HOx.out.1 rfl)
    clear hNx HOx
    by_cases hi1 : (0 : Int) < (i : Int)
    ·obtain ⟨p, hip⟩ : ∃ p, i = p + 1:=⟨i - 1, by omega⟩
     have HIp:=Lib.hid hip
     have hpw : IntKind.i64.wrap ((i : Int) - 1) = (p : Int):=by rw [show (i : Int) - 1 = (p : Int) by omega];exact IntWalk.i64_in _ (by have:=HN.out;omega)
     have hpi : (p : Int) < (l.length : Int):=by omega
     have hp0 : (0 : Int) ≤ (p : Int):=by omega
     obtain ⟨y, hy⟩ : ∃ y, l[p]? = some y:=⟨_, List.getElem?_eq_getElem (by omega)⟩
     have HYp:=Lib.hid hy
     have HGy:=Lib.hid (HGe.out y (List.mem_of_getElem? hy))
     have HOr : Hid (∀ W, Calls Try.prog 77 #[.agg (grCells y).toArray, .agg (grCells x).toArray] W fun e w'=>e = .returned (.int .i64 (ordI y x)) ∧ Below W.heap.size W w'):=fun W=>order_any y x W
     have HCf : Hid (∀ W, Calls Try.prog 78 #[.agg (grCells y).toArray, .agg (grCells x).toArray] W fun e w'=>e = .returned (.bool (confB y x)) ∧ Below W.heap.size W w'):=fun W=>pconflict_any y x W HGy.out HGx.out
     have hNx:=HNl.out i p x y HXi.out hip hy
     have hNy:=HNc.out i p x y HXi.out hip hy
     have hneg:=@ordI_neg y x
     have hcf:=@confB_iff y x
     have dp : decide ((0 : Int) < (i : Int)) = true:=decide_eq_true hi1
     have hi2 : 0 < i:=by omega
     clear hip hy hi1
     generalize ordI y x = ov at *
     generalize confB y x = cf at *
     by_cases ho : ov < 0
     ·have HG:=Lib.hid (hneg.1 ho)
      have dov : decide (0 ≤ ov) = false:=decide_eq_false (by omega)
      have HU : Hid (∀ z, (l.take i).getLast? = some z → GLt z x):=fun z hz=>by
       rw [last_take HIp.out HYp.out] at hz
       rw [← Option.some.inj hz];exact HG.out
      clear hNx hneg ho
      cases cf
      case true =>
       have HX:=Lib.hid (hNy (hcf.1 rfl))
       clear hNy hcf
       refine wp_region_held_drew (S:=fun w'=>w'.rangeAt B21 0 (grCells x) ∧ w'.rangeAt g (off + p * 4) (grCells y)) (by kernel_rfl) (⟨(fun j v hv=>by rw [Nat.zero_add];exact ((HS21.out).drew).at 0 rfl j hv), (elem_rng (HRg.out _ ((HS21.out).drew).old) HYp.out)⟩) (fun hHeld=>?_)
       refine tk 0 qPk5_0 (some 12) (yieldsIf_load_mid (by rfl) 29 (.tmp 4) rfl B21 (0) rfl (grCells x) _ (fun _ h=>h.1) HUG.out rfl (info_gr)) hHeld ?_
       try simp only [z0, z1, z2, z3]
       refine tn 1 qPk5_1 (fun K hK=>?_)
       go_simp
       go_wp2_with (go_at_call 43;refine (HGr.out _).mono ?_;rintro e w61 ⟨rfl, hb⟩)
       have HS61:=Lib.hid (((HS21.out).drew).calls hb)
       refine hK.out _ _ (⟨(fun j v hv=>by rw [Nat.zero_add];exact (HS61.out).at 0 rfl j hv), (elem_rng (HRg.out _ (HS61.out).old) HYp.out)⟩) (fun hHeld=>?_)
       clear hK K hb
       try simp only [z0, z1, z2, z3]
       refine tk 2 qPk5_2 (some 14) (v:=.bool false) (Or.inl ⟨by rfl, ?q402h⟩) hHeld ?q402r
       case q402h=>(intro _ h;clear h;go_simp;try with_reducible rfl)
       try simp only [z0, z1, z2, z3]
       refine tk 3 qPk5_3 (some 15) (v:=?q403v) (Or.inl ⟨by rfl, ?q403h⟩) hHeld ?q403r
       case q403h=>(intro _ h;clear h;go_simp;try with_reducible rfl)
       try simp only [z0, z1, z2, z3]
       refine tk 4 qPk5_4 (some 16) (v:=?q404v) (Or.inl ⟨by rfl, ?q404h⟩) hHeld ?q404r
       case q404h=>(intro _ h;clear h;go_simp;try with_reducible rfl)
       try simp only [z0, z1, z2, z3]
       refine tk 5 qPk5_5 (some 17) (v:=.bool true) (Or.inl ⟨by rfl, ?q405h⟩) hHeld ?q405r
       case q405h=>(intro _ h;clear h;go_simp;try with_reducible rfl)
       try simp only [z0, z1, z2, z3]
       refine tk 6 qPk5_6 (some 18) (v:=?q406v) (Or.inl ⟨by rfl, ?q406h⟩) hHeld ?q406r
       case q406h=>(intro _ h;clear h;go_simp;try with_reducible rfl)
       try simp only [z0, z1, z2, z3]
       refine tk 7 qPk5_7 (some 19) (v:=?q407v) (Or.inl ⟨by rfl, ?q407h⟩) hHeld ?q407r
       case q407h=>(intro _ h;clear h;go_simp;try with_reducible rfl)
       try simp only [z0, z1, z2, z3]
       refine tk 8 qPk5_8 (some 20) (v:=?q408v) (Or.inl ⟨by rfl, ?q408h⟩) hHeld ?q408r
       case q408h=>(intro _ h;clear h;go_simp;try with_reducible rfl)
       try simp only [z0, z1, z2, z3]
       refine tk 9 qPk5_9 (some 21) (v:=?q409v) (Or.inl ⟨by rfl, ?q409h⟩) hHeld ?q409r
       case q409h=>(intro _ h;clear h;go_simp;try with_reducible rfl)
       try simp only [z0, z1, z2, z3]
       refine tk 10 qPk5_10 (some 22) (v:=?q410v) (Or.inl ⟨by rfl, ?q410h⟩) hHeld ?q410r
       case q410h=>(intro _ h;clear h;go_simp;try with_reducible rfl)
       try simp only [z0, z1, z2, z3]
       refine tk 11 qPk5_11 (some 23) (yieldsIf_load_mid (by rfl) 29 (.tmp 22) rfl g (off + p * 4) rfl (grCells y) _ (fun _ h=>h.2) HUG.out rfl (info_gr)) hHeld ?_
       try simp only [z0, z1, z2, z3]
       refine tk 12 qPk5_12 (some 24) (yieldsIf_load_mid (by rfl) 29 (.tmp 4) rfl B21 (0) rfl (grCells x) _ (fun _ h=>h.1) HUG.out rfl (info_gr)) hHeld ?_
       try simp only [z0, z1, z2, z3]
       refine tn 13 qPk5_13 (fun K hK=>?_)
       go_simp
       go_wp2_with (go_at_call 77;refine (HOr.out _).mono ?_;rintro e w62 ⟨rfl, hb⟩)
       have HS62:=Lib.hid ((HS61.out).calls hb)
       refine hK.out _ _ (⟨(fun j v hv=>by rw [Nat.zero_add];exact (HS62.out).at 0 rfl j hv), (elem_rng (HRg.out _ (HS62.out).old) HYp.out)⟩) (fun hHeld=>?_)
       clear hK K hb
       try simp only [z0, z1, z2, z3]
       refine tk 14 qPk5_14 (some 26) (v:=.bool false) (Or.inl ⟨by rfl, ?q413h⟩) hHeld ?q413r
       case q413h=>(intro _ h;clear h;go_simp;try with_reducible rfl)
       try simp only [z0, z1, z2, z3]
       refine tk 15 qPk5_15 (some 27) (v:=?q414v) (Or.inl ⟨by rfl, ?q414h⟩) hHeld ?q414r
       case q414h=>(intro _ h;clear h;go_simp;try with_reducible rfl)
       try simp only [z0, z1, z2, z3]
       refine tk 16 qPk5_16 (some 28) (v:=?q415v) (Or.inl ⟨by rfl, ?q415h⟩) hHeld ?q415r
       case q415h=>(intro _ h;clear h;go_simp;try with_reducible rfl)
       try simp only [z0, z1, z2, z3]
       refine tk 17 qPk5_17 (some 29) (v:=?q416v) (Or.inl ⟨by rfl, ?q416h⟩) hHeld ?q416r
       case q416h=>(intro _ h;clear h;go_simp;try with_reducible rfl)
       try simp only [z0, z1, z2, z3]
       refine tk 18 qPk5_18 (some 30) (v:=?q417v) (Or.inl ⟨by rfl, ?q417h⟩) hHeld ?q417r
       case q417h=>(intro _ h;clear h;go_simp;try with_reducible rfl)
       try simp only [z0, z1, z2, z3]
       refine tk 19 qPk5_19 (some 31) (v:=?q418v) (Or.inl ⟨by rfl, ?q418h⟩) hHeld ?q418r
       case q418h=>(intro _ h;clear h;go_simp;try with_reducible rfl)
       try simp only [z0, z1, z2, z3]
       refine tk 20 qPk5_20 (some 32) (yieldsIf_load_mid (by rfl) 29 (.tmp 31) rfl g (off + p * 4) rfl (grCells y) _ (fun _ h=>h.2) HUG.out rfl (info_gr)) hHeld ?_
       try simp only [z0, z1, z2, z3]
       refine tk 21 qPk5_21 (some 33) (yieldsIf_load_mid (by rfl) 29 (.tmp 4) rfl B21 (0) rfl (grCells x) _ (fun _ h=>h.1) HUG.out rfl (info_gr)) hHeld ?_
       try simp only [z0, z1, z2, z3]
       refine tn 22 qPk5_22 (fun K hK=>?_)
       go_simp
       go_wp2_with (go_at_call 78;refine (HCf.out _).mono ?_;rintro e w63 ⟨rfl, hb⟩)
       have HS63:=Lib.hid ((HS62.out).calls hb)
       refine hK.out _ _ (⟨(fun j v hv=>by rw [Nat.zero_add];exact (HS63.out).at 0 rfl j hv), (elem_rng (HRg.out _ (HS63.out).old) HYp.out)⟩) (fun hHeld=>?_)
       clear hK K hb
       try simp only [z0, z1, z2, z3]
       refine tk 23 qPk5_23 (some 35) (v:=?q421v) (Or.inl ⟨by rfl, ?q421h⟩) hHeld ?q421r
       case q421h=>(intro _ h;clear h;go_simp;try with_reducible rfl)
       try simp only [z0, z1, z2, z3]
       refine tk 24 qPk5_24 (some 36) (v:=?q422v) (Or.inl ⟨by rfl, ?q422h⟩) hHeld ?q422r
       case q422h=>(intro _ h;clear h;go_simp;try with_reducible rfl)
       try simp only [z0, z1, z2, z3]
       refine tk 25 qPk5_25 (some 37) (v:=?q423v) (Or.inl ⟨by rfl, ?q423h⟩) hHeld ?q423r
       case q423h=>(intro _ h;clear h;go_simp;try with_reducible rfl)
       try simp only [z0, z1, z2, z3]
       refine wpAnyH_done (by kernel_rfl) ?_ _
       clear hHeld
       go_wp2_with fail
       go_ret
       exact ⟨by rw [HX.out];rfl, (HS63.out).old⟩
      case false =>
       have HA : Hid (∀ z ∈ l.take i, ¬ Conf z x):=adj_free HH.out (last_take HIp.out HYp.out) HG.out (fun h=>by have:=hcf.2 h;cases this)
       clear hNy hcf
       refine wp_region_held_drew (S:=fun w'=>w'.rangeAt B21 0 (grCells x) ∧ w'.rangeAt g (off + p * 4) (grCells y)) (by kernel_rfl) (⟨(fun j v hv=>by rw [Nat.zero_add];exact ((HS21.out).drew).at 0 rfl j hv), (elem_rng (HRg.out _ ((HS21.out).drew).old) HYp.out)⟩) (fun hHeld=>?_)
       refine tk 0 qPk5_0 (some 12) (yieldsIf_load_mid (by rfl) 29 (.tmp 4) rfl B21 (0) rfl (grCells x) _ (fun _ h=>h.1) HUG.out rfl (info_gr)) hHeld ?_
       try simp only [z0, z1, z2, z3]
       refine tn 1 qPk5_1 (fun K hK=>?_)
       go_simp
       go_wp2_with (go_at_call 43;refine (HGr.out _).mono ?_;rintro e w61 ⟨rfl, hb⟩)
       have HS61:=Lib.hid (((HS21.out).drew).calls hb)
       refine hK.out _ _ (⟨(fun j v hv=>by rw [Nat.zero_add];exact (HS61.out).at 0 rfl j hv), (elem_rng (HRg.out _ (HS61.out).old) HYp.out)⟩) (fun hHeld=>?_)
       clear hK K hb
       try simp only [z0, z1, z2, z3]
       refine tk 2 qPk5_2 (some 14) (v:=.bool false) (Or.inl ⟨by rfl, ?q502h⟩) hHeld ?q502r
       case q502h=>(intro _ h;clear h;go_simp;try with_reducible rfl)
       try simp only [z0, z1, z2, z3]
       refine tk 3 qPk5_3 (some 15) (v:=?q503v) (Or.inl ⟨by rfl, ?q503h⟩) hHeld ?q503r
       case q503h=>(intro _ h;clear h;go_simp;try with_reducible rfl)
       try simp only [z0, z1, z2, z3]
       refine tk 4 qPk5_4 (some 16) (v:=?q504v) (Or.inl ⟨by rfl, ?q504h⟩) hHeld ?q504r
       case q504h=>(intro _ h;clear h;go_simp;try with_reducible rfl)
       try simp only [z0, z1, z2, z3]
       refine tk 5 qPk5_5 (some 17) (v:=.bool true) (Or.inl ⟨by rfl, ?q505h⟩) hHeld ?q505r
       case q505h=>(intro _ h;clear h;go_simp;try with_reducible rfl)
       try simp only [z0, z1, z2, z3]
       refine tk 6 qPk5_6 (some 18) (v:=?q506v) (Or.inl ⟨by rfl, ?q506h⟩) hHeld ?q506r
       case q506h=>(intro _ h;clear h;go_simp;try with_reducible rfl)
       try simp only [z0, z1, z2, z3]
       refine tk 7 qPk5_7 (some 19) (v:=?q507v) (Or.inl ⟨by rfl, ?q507h⟩) hHeld ?q507r
       case q507h=>(intro _ h;clear h;go_simp;try with_reducible rfl)
       try simp only [z0, z1, z2, z3]
       refine tk 8 qPk5_8 (some 20) (v:=?q508v) (Or.inl ⟨by rfl, ?q508h⟩) hHeld ?q508r
       case q508h=>(intro _ h;clear h;go_simp;try with_reducible rfl)
       try simp only [z0, z1, z2, z3]
       refine tk 9 qPk5_9 (some 21) (v:=?q509v) (Or.inl ⟨by rfl, ?q509h⟩) hHeld ?q509r
       case q509h=>(intro _ h;clear h;go_simp;try with_reducible rfl)
       try simp only [z0, z1, z2, z3]
       refine tk 10 qPk5_10 (some 22) (v:=?q510v) (Or.inl ⟨by rfl, ?q510h⟩) hHeld ?q510r
       case q510h=>(intro _ h;clear h;go_simp;try with_reducible rfl)
       try simp only [z0, z1, z2, z3]
       refine tk 11 qPk5_11 (some 23) (yieldsIf_load_mid (by rfl) 29 (.tmp 22) rfl g (off + p * 4) rfl (grCells y) _ (fun _ h=>h.2) HUG.out rfl (info_gr)) hHeld ?_
       try simp only [z0, z1, z2, z3]
       refine tk 12 qPk5_12 (some 24) (yieldsIf_load_mid (by rfl) 29 (.tmp 4) rfl B21 (0) rfl (grCells x) _ (fun _ h=>h.1) HUG.out rfl (info_gr)) hHeld ?_
       try simp only [z0, z1, z2, z3]
       refine tn 13 qPk5_13 (fun K hK=>?_)
       go_simp
       go_wp2_with (go_at_call 77;refine (HOr.out _).mono ?_;rintro e w62 ⟨rfl, hb⟩)
       have HS62:=Lib.hid ((HS61.out).calls hb)
       refine hK.out _ _ (⟨(fun j v hv=>by rw [Nat.zero_add];exact (HS62.out).at 0 rfl j hv), (elem_rng (HRg.out _ (HS62.out).old) HYp.out)⟩) (fun hHeld=>?_)
       clear hK K hb
       try simp only [z0, z1, z2, z3]
       refine tk 14 qPk5_14 (some 26) (v:=.bool false) (Or.inl ⟨by rfl, ?q513h⟩) hHeld ?q513r
       case q513h=>(intro _ h;clear h;go_simp;try with_reducible rfl)
       try simp only [z0, z1, z2, z3]
       refine tk 15 qPk5_15 (some 27) (v:=?q514v) (Or.inl ⟨by rfl, ?q514h⟩) hHeld ?q514r
       case q514h=>(intro _ h;clear h;go_simp;try with_reducible rfl)
       try simp only [z0, z1, z2, z3]
       refine tk 16 qPk5_16 (some 28) (v:=?q515v) (Or.inl ⟨by rfl, ?q515h⟩) hHeld ?q515r
       case q515h=>(intro _ h;clear h;go_simp;try with_reducible rfl)
       try simp only [z0, z1, z2, z3]
       refine tk 17 qPk5_17 (some 29) (v:=?q516v) (Or.inl ⟨by rfl, ?q516h⟩) hHeld ?q516r
       case q516h=>(intro _ h;clear h;go_simp;try with_reducible rfl)
       try simp only [z0, z1, z2, z3]
       refine tk 18 qPk5_18 (some 30) (v:=?q517v) (Or.inl ⟨by rfl, ?q517h⟩) hHeld ?q517r
       case q517h=>(intro _ h;clear h;go_simp;try with_reducible rfl)
       try simp only [z0, z1, z2, z3]
       refine tk 19 qPk5_19 (some 31) (v:=?q518v) (Or.inl ⟨by rfl, ?q518h⟩) hHeld ?q518r
       case q518h=>(intro _ h;clear h;go_simp;try with_reducible rfl)
       try simp only [z0, z1, z2, z3]
       refine tk 20 qPk5_20 (some 32) (yieldsIf_load_mid (by rfl) 29 (.tmp 31) rfl g (off + p * 4) rfl (grCells y) _ (fun _ h=>h.2) HUG.out rfl (info_gr)) hHeld ?_
       try simp only [z0, z1, z2, z3]
       refine tk 21 qPk5_21 (some 33) (yieldsIf_load_mid (by rfl) 29 (.tmp 4) rfl B21 (0) rfl (grCells x) _ (fun _ h=>h.1) HUG.out rfl (info_gr)) hHeld ?_
       try simp only [z0, z1, z2, z3]
       refine tn 22 qPk5_22 (fun K hK=>?_)
       go_simp
       go_wp2_with (go_at_call 78;refine (HCf.out _).mono ?_;rintro e w63 ⟨rfl, hb⟩)
       have HS63:=Lib.hid ((HS62.out).calls hb)
       refine hK.out _ _ (⟨(fun j v hv=>by rw [Nat.zero_add];exact (HS63.out).at 0 rfl j hv), (elem_rng (HRg.out _ (HS63.out).old) HYp.out)⟩) (fun hHeld=>?_)
       clear hK K hb
       try simp only [z0, z1, z2, z3]
       refine tk 23 qPk5_23 (some 35) (v:=?q521v) (Or.inl ⟨by rfl, ?q521h⟩) hHeld ?q521r
       case q521h=>(intro _ h;clear h;go_simp;try with_reducible rfl)
       try simp only [z0, z1, z2, z3]
       refine tk 24 qPk5_24 (some 36) (v:=?q522v) (Or.inl ⟨by rfl, ?q522h⟩) hHeld ?q522r
       case q522h=>(intro _ h;clear h;go_simp;try with_reducible rfl)
       try simp only [z0, z1, z2, z3]
       refine tk 25 qPk5_25 (some 37) (v:=?q523v) (Or.inl ⟨by rfl, ?q523h⟩) hHeld ?q523r
       case q523h=>(intro _ h;clear h;go_simp;try with_reducible rfl)
       try simp only [z0, z1, z2, z3]
       refine wpAnyH_done (by kernel_rfl) ?_ _
       clear hHeld
       go_wp2_with fail
       go_roundw
       case rel=>exact ⟨i + 1, HLt.out, by go_num, by rw [lk_take_snoc HXi.out];exact held_snoc HH.out HOk1.out HU.out HA.out, HS63.out.forget (L:=[])⟩
       case measure=>simp [intOf];try (have:=HLt.out;omega)
     ·have HX:=Lib.hid (hNx (fun h=>ho (hneg.2 h)))
      have dov : decide (0 ≤ ov) = true:=decide_eq_true (by omega)
      clear hNx hNy hneg hcf ho
      refine wp_region_held_drew (S:=fun w'=>w'.rangeAt B21 0 (grCells x) ∧ w'.rangeAt g (off + p * 4) (grCells y)) (by kernel_rfl) (⟨(fun j v hv=>by rw [Nat.zero_add];exact ((HS21.out).drew).at 0 rfl j hv), (elem_rng (HRg.out _ ((HS21.out).drew).old) HYp.out)⟩) (fun hHeld=>?_)
      refine tk 0 qPk5_0 (some 12) (yieldsIf_load_mid (by rfl) 29 (.tmp 4) rfl B21 (0) rfl (grCells x) _ (fun _ h=>h.1) HUG.out rfl (info_gr)) hHeld ?_
      try simp only [z0, z1, z2, z3]
      refine tn 1 qPk5_1 (fun K hK=>?_)
      go_simp
      go_wp2_with (go_at_call 43;refine (HGr.out _).mono ?_;rintro e w61 ⟨rfl, hb⟩)
      have HS61:=Lib.hid (((HS21.out).drew).calls hb)
      refine hK.out _ _ (⟨(fun j v hv=>by rw [Nat.zero_add];exact (HS61.out).at 0 rfl j hv), (elem_rng (HRg.out _ (HS61.out).old) HYp.out)⟩) (fun hHeld=>?_)
      clear hK K hb
      try simp only [z0, z1, z2, z3]
      refine tk 2 qPk5_2 (some 14) (v:=.bool false) (Or.inl ⟨by rfl, ?q302h⟩) hHeld ?q302r
      case q302h=>(intro _ h;clear h;go_simp;try with_reducible rfl)
      try simp only [z0, z1, z2, z3]
      refine tk 3 qPk5_3 (some 15) (v:=?q303v) (Or.inl ⟨by rfl, ?q303h⟩) hHeld ?q303r
      case q303h=>(intro _ h;clear h;go_simp;try with_reducible rfl)
      try simp only [z0, z1, z2, z3]
      refine tk 4 qPk5_4 (some 16) (v:=?q304v) (Or.inl ⟨by rfl, ?q304h⟩) hHeld ?q304r
      case q304h=>(intro _ h;clear h;go_simp;try with_reducible rfl)
      try simp only [z0, z1, z2, z3]
      refine tk 5 qPk5_5 (some 17) (v:=.bool true) (Or.inl ⟨by rfl, ?q305h⟩) hHeld ?q305r
      case q305h=>(intro _ h;clear h;go_simp;try with_reducible rfl)
      try simp only [z0, z1, z2, z3]
      refine tk 6 qPk5_6 (some 18) (v:=?q306v) (Or.inl ⟨by rfl, ?q306h⟩) hHeld ?q306r
      case q306h=>(intro _ h;clear h;go_simp;try with_reducible rfl)
      try simp only [z0, z1, z2, z3]
      refine tk 7 qPk5_7 (some 19) (v:=?q307v) (Or.inl ⟨by rfl, ?q307h⟩) hHeld ?q307r
      case q307h=>(intro _ h;clear h;go_simp;try with_reducible rfl)
      try simp only [z0, z1, z2, z3]
      refine tk 8 qPk5_8 (some 20) (v:=?q308v) (Or.inl ⟨by rfl, ?q308h⟩) hHeld ?q308r
      case q308h=>(intro _ h;clear h;go_simp;try with_reducible rfl)
      try simp only [z0, z1, z2, z3]
      refine tk 9 qPk5_9 (some 21) (v:=?q309v) (Or.inl ⟨by rfl, ?q309h⟩) hHeld ?q309r
      case q309h=>(intro _ h;clear h;go_simp;try with_reducible rfl)
      try simp only [z0, z1, z2, z3]
      refine tk 10 qPk5_10 (some 22) (v:=?q310v) (Or.inl ⟨by rfl, ?q310h⟩) hHeld ?q310r
      case q310h=>(intro _ h;clear h;go_simp;try with_reducible rfl)
      try simp only [z0, z1, z2, z3]
      refine tk 11 qPk5_11 (some 23) (yieldsIf_load_mid (by rfl) 29 (.tmp 22) rfl g (off + p * 4) rfl (grCells y) _ (fun _ h=>h.2) HUG.out rfl (info_gr)) hHeld ?_
      try simp only [z0, z1, z2, z3]
      refine tk 12 qPk5_12 (some 24) (yieldsIf_load_mid (by rfl) 29 (.tmp 4) rfl B21 (0) rfl (grCells x) _ (fun _ h=>h.1) HUG.out rfl (info_gr)) hHeld ?_
      try simp only [z0, z1, z2, z3]
      refine tn 13 qPk5_13 (fun K hK=>?_)
      go_simp
      go_wp2_with (go_at_call 77;refine (HOr.out _).mono ?_;rintro e w62 ⟨rfl, hb⟩)
      have HS62:=Lib.hid ((HS61.out).calls hb)
      refine hK.out _ _ (⟨(fun j v hv=>by rw [Nat.zero_add];exact (HS62.out).at 0 rfl j hv), (elem_rng (HRg.out _ (HS62.out).old) HYp.out)⟩) (fun hHeld=>?_)
      clear hK K hb
      try simp only [z0, z1, z2, z3]
      refine tk 14 qPk5_14 (some 26) (v:=.bool true) (Or.inl ⟨by rfl, ?q313h⟩) hHeld ?q313r
      case q313h=>(intro _ h;clear h;go_simp;try with_reducible rfl)
      try simp only [z0, z1, z2, z3]
      refine tk 15 qPk5_15 (some 27) (v:=?q314v) (Or.inl ⟨by rfl, ?q314h⟩) hHeld ?q314r
      case q314h=>(intro _ h;clear h;go_simp;try with_reducible rfl)
      try simp only [z0, z1, z2, z3]
      refine tk 16 qPk5_16 (some 28) (v:=undef) (Or.inr ⟨by rfl, rfl⟩) hHeld ?_
      try simp only [z0, z1, z2, z3]
      refine tk 17 qPk5_17 (some 29) (v:=undef) (Or.inr ⟨by rfl, rfl⟩) hHeld ?_
      try simp only [z0, z1, z2, z3]
      refine tk 18 qPk5_18 (some 30) (v:=undef) (Or.inr ⟨by rfl, rfl⟩) hHeld ?_
      try simp only [z0, z1, z2, z3]
      refine tk 19 qPk5_19 (some 31) (v:=undef) (Or.inr ⟨by rfl, rfl⟩) hHeld ?_
      try simp only [z0, z1, z2, z3]
      refine tk 20 qPk5_20 (some 32) (v:=undef) (Or.inr ⟨by rfl, rfl⟩) hHeld ?_
      try simp only [z0, z1, z2, z3]
      refine tk 21 qPk5_21 (some 33) (v:=undef) (Or.inr ⟨by rfl, rfl⟩) hHeld ?_
      try simp only [z0, z1, z2, z3]
      refine tn 22 qPk5_22 (fun K hK=>?_)
      rw [if_neg (by exact Bool.false_ne_true)]
      have HS63:=HS62
      refine hK.out _ _ (⟨(fun j v hv=>by rw [Nat.zero_add];exact (HS63.out).at 0 rfl j hv), (elem_rng (HRg.out _ (HS63.out).old) HYp.out)⟩) (fun hHeld=>?_)
      clear hK K
      try simp only [z0, z1, z2, z3]
      refine tk 23 qPk5_23 (some 35) (v:=?q321v) (Or.inl ⟨by rfl, ?q321h⟩) hHeld ?q321r
      case q321h=>(intro _ h;clear h;go_simp;try with_reducible rfl)
      try simp only [z0, z1, z2, z3]
      refine tk 24 qPk5_24 (some 36) (v:=?q322v) (Or.inl ⟨by rfl, ?q322h⟩) hHeld ?q322r
      case q322h=>(intro _ h;clear h;go_simp;try with_reducible rfl)
      try simp only [z0, z1, z2, z3]
      refine tk 25 qPk5_25 (some 37) (v:=?q323v) (Or.inl ⟨by rfl, ?q323h⟩) hHeld ?q323r
      case q323h=>(intro _ h;clear h;go_simp;try with_reducible rfl)
      try simp only [z0, z1, z2, z3]
      refine wpAnyH_done (by kernel_rfl) ?_ _
      clear hHeld
      go_wp2_with fail
      go_ret
      exact ⟨by rw [HX.out];rfl, (HS63.out).old⟩
    ·obtain rfl : i = 0:=by omega
     have HU : Hid (∀ z, (l.take 0).getLast? = some z → GLt z x):=fun z hz=>by simp at hz
     have HA : Hid (∀ z ∈ l.take 0, ¬ Conf z x):=fun z hz=>by simp at hz
     have dp : decide ((0 : Int) < ((0 : Nat) : Int)) = false:=rfl
     clear hi1
     refine wp_region_held_drew (S:=fun w'=>w'.rangeAt B21 0 (grCells x)) (by kernel_rfl) ((fun j v hv=>by rw [Nat.zero_add];exact ((HS21.out).drew).at 0 rfl j hv)) (fun hHeld=>?_)
     refine tk 0 qPk5_0 (some 12) (yieldsIf_load_mid (by rfl) 29 (.tmp 4) rfl B21 (0) rfl (grCells x) _ (fun _ h=>h) HUG.out rfl (info_gr)) hHeld ?_
     try simp only [z0, z1, z2, z3]
     refine tn 1 qPk5_1 (fun K hK=>?_)
     go_simp
     go_wp2_with (go_at_call 43;refine (HGr.out _).mono ?_;rintro e w61 ⟨rfl, hb⟩)
     have HS61:=Lib.hid (((HS21.out).drew).calls hb)
     refine hK.out _ _ ((fun j v hv=>by rw [Nat.zero_add];exact (HS61.out).at 0 rfl j hv)) (fun hHeld=>?_)
     clear hK K hb
     try simp only [z0, z1, z2, z3]
     refine tk 2 qPk5_2 (some 14) (v:=.bool false) (Or.inl ⟨by rfl, ?q202h⟩) hHeld ?q202r
     case q202h=>(intro _ h;clear h;go_simp;try with_reducible rfl)
     try simp only [z0, z1, z2, z3]
     refine tk 3 qPk5_3 (some 15) (v:=?q203v) (Or.inl ⟨by rfl, ?q203h⟩) hHeld ?q203r
     case q203h=>(intro _ h;clear h;go_simp;try with_reducible rfl)
     try simp only [z0, z1, z2, z3]
     refine tk 4 qPk5_4 (some 16) (v:=?q204v) (Or.inl ⟨by rfl, ?q204h⟩) hHeld ?q204r
     case q204h=>(intro _ h;clear h;go_simp;try with_reducible rfl)
     try simp only [z0, z1, z2, z3]
     refine tk 5 qPk5_5 (some 17) (v:=.bool false) (Or.inl ⟨by rfl, ?q205h⟩) hHeld ?q205r
     case q205h=>(intro _ h;clear h;go_simp;try with_reducible rfl)
     try simp only [z0, z1, z2, z3]
     refine tk 6 qPk5_6 (some 18) (v:=?q206v) (Or.inl ⟨by rfl, ?q206h⟩) hHeld ?q206r
     case q206h=>(intro _ h;clear h;go_simp;try with_reducible rfl)
     try simp only [z0, z1, z2, z3]
     refine tk 7 qPk5_7 (some 19) (v:=undef) (Or.inr ⟨by rfl, rfl⟩) hHeld ?_
     try simp only [z0, z1, z2, z3]
     refine tk 8 qPk5_8 (some 20) (v:=undef) (Or.inr ⟨by rfl, rfl⟩) hHeld ?_
     try simp only [z0, z1, z2, z3]
     refine tk 9 qPk5_9 (some 21) (v:=undef) (Or.inr ⟨by rfl, rfl⟩) hHeld ?_
     try simp only [z0, z1, z2, z3]
     refine tk 10 qPk5_10 (some 22) (v:=undef) (Or.inr ⟨by rfl, rfl⟩) hHeld ?_
     try simp only [z0, z1, z2, z3]
     refine tk 11 qPk5_11 (some 23) (v:=undef) (Or.inr ⟨by rfl, rfl⟩) hHeld ?_
     try simp only [z0, z1, z2, z3]
     refine tk 12 qPk5_12 (some 24) (v:=undef) (Or.inr ⟨by rfl, rfl⟩) hHeld ?_
     try simp only [z0, z1, z2, z3]
     refine tn 13 qPk5_13 (fun K hK=>?_)
     rw [if_neg (by exact Bool.false_ne_true)]
     have HS62:=HS61
     refine hK.out _ _ ((fun j v hv=>by rw [Nat.zero_add];exact (HS62.out).at 0 rfl j hv)) (fun hHeld=>?_)
     clear hK K
     try simp only [z0, z1, z2, z3]
     refine tk 14 qPk5_14 (some 26) (v:=undef) (Or.inr ⟨by rfl, rfl⟩) hHeld ?_
     try simp only [z0, z1, z2, z3]
     refine tk 15 qPk5_15 (some 27) (v:=undef) (Or.inr ⟨by rfl, rfl⟩) hHeld ?_
     try simp only [z0, z1, z2, z3]
     refine tk 16 qPk5_16 (some 28) (v:=undef) (Or.inr ⟨by rfl, rfl⟩) hHeld ?_
     try simp only [z0, z1, z2, z3]
     refine tk 17 qPk5_17 (some 29) (v:=undef) (Or.inr ⟨by rfl, rfl⟩) hHeld ?_
     try simp only [z0, z1, z2, z3]
     refine tk 18 qPk5_18 (some 30) (v:=undef) (Or.inr ⟨by rfl, rfl⟩) hHeld ?_
     try simp only [z0, z1, z2, z3]
     refine tk 19 qPk5_19 (some 31) (v:=undef) (Or.inr ⟨by rfl, rfl⟩) hHeld ?_
     try simp only [z0, z1, z2, z3]
     refine tk 20 qPk5_20 (some 32) (v:=undef) (Or.inr ⟨by rfl, rfl⟩) hHeld ?_
     try simp only [z0, z1, z2, z3]
     refine tk 21 qPk5_21 (some 33) (v:=undef) (Or.inr ⟨by rfl, rfl⟩) hHeld ?_
     try simp only [z0, z1, z2, z3]
     refine tn 22 qPk5_22 (fun K hK=>?_)
     rw [if_neg (by exact Bool.false_ne_true)]
     have HS63:=HS62
     refine hK.out _ _ ((fun j v hv=>by rw [Nat.zero_add];exact (HS63.out).at 0 rfl j hv)) (fun hHeld=>?_)
     clear hK K
     try simp only [z0, z1, z2, z3]
     refine tk 23 qPk5_23 (some 35) (v:=undef) (Or.inr ⟨by rfl, rfl⟩) hHeld ?_
     try simp only [z0, z1, z2, z3]
     refine tk 24 qPk5_24 (some 36) (v:=?q222v) (Or.inl ⟨by rfl, ?q222h⟩) hHeld ?q222r
     case q222h=>(intro _ h;clear h;go_simp;try with_reducible rfl)
     try simp only [z0, z1, z2, z3]
     refine tk 25 qPk5_25 (some 37) (v:=?q223v) (Or.inl ⟨by rfl, ?q223h⟩) hHeld ?q223r
     case q223h=>(intro _ h;clear h;go_simp;try with_reducible rfl)
     try simp only [z0, z1, z2, z3]
     refine wpAnyH_done (by kernel_rfl) ?_ _
     clear hHeld
     go_wp2_with fail
     go_roundw
     case rel=>exact ⟨0 + 1, HLt.out, by go_num, by rw [lk_take_snoc HXi.out];exact held_snoc HH.out HOk1.out HU.out HA.out, HS63.out.forget (L:=[])⟩
     case measure=>simp [intOf];try (have:=HLt.out;omega)
  ·obtain rfl : i = l.length:=by omega
   have HX:=Lib.hid (HYes.out (by have:=HH.out;rwa [List.take_length] at this))
   clear hlt hi HH
   go_wp2_with fail
   go_ret
   exact ⟨by rw [HX.out];rfl, HY.out.old⟩
end Go.Proofs.Ytooaldglgkjjgaa
/- a set of numbers in a map that the walk has made: which numbers it has -/
namespace Go.Proofs.Ytooaldglgkjjgaa
open Go.RowKit
open Go.Maps (Keyed)
set_option maxRecDepth 20000

theorem lawI : Keyed Try.prog 3:=Maps.int_keyed Try.underlying3
theorem zeroB (w : World) : (zeroValue 4).run Try.prog w = .ok (.bool false) w:=by kernel_rfl
theorem run_makeSet (n : Int) (w : World) : (Instr.makeMap 63 (some (.int .i64 n))).run Try.prog w = .ok (.map (some w.heap.size)) (w.alloc (.map #[] 0)):=by
  simp [Instr.makeMap, run_underlying Try.underlying63, asInt, asIntOf]
def SeenM (W : World) (b n : Nat) (l : List Int) : Prop :=
  ∃ D : DataW Unit, W.ownsMap Try.prog 3 (plainElem Try.prog 4) b n D ∧ ∀ x, (Lit.int .i64 x).wf = true → D.atKey (.int .i64 x) (.lit (.bool false)) = .lit (.bool (decide (x ∈ l)))
theorem SeenM.made (w : World) : SeenM (w.alloc (.map #[] 0)) w.heap.size 0 []:=⟨_, World.ownsMap_made w _ _ _, fun x _=>by
  rw [WideAt.atKey_none _ (by simp)];simp⟩
theorem SeenM.kept {w w' : World} {b n : Nat} {l : List Int} {row : Option Nat} (h : SeenM w b n l) (hg : w.grownBy w' row) (hne : some b ≠ row) : SeenM w' b n l:=by
  obtain ⟨D, h1, h2⟩:=h
  exact ⟨D, h1.kept hg hne, h2⟩
theorem SeenM.lt {w : World} {b n : Nat} {l : List Int} (h : SeenM w b n l) : b < w.heap.size:=by
  obtain ⟨D, h1, _⟩:=h
  exact h1.lt
theorem SeenM.below {w w' : World} {b n : Nat} {l : List Int} (h : SeenM w b n l) (hb : Below w.heap.size w w') : SeenM w' b n l:=h.kept (row:=none) ⟨hb.os, hb.tape, hb.output, hb.size, fun k hk _=>hb.block k hk⟩ (by simp)
theorem seen_look {w : World} {b n : Nat} {l : List Int} {x : Int} {c : Bool} (h : SeenM w b n l) (hx : (Lit.int .i64 x).wf = true) (hc : decide (x ∈ l) = c) : Sem.run Try.prog (Instr.lookup 63 (.map (some b)) (.int .i64 x) false) w = .ok (.bool c) w:=by
  obtain ⟨D, h1, h2⟩:=h
  obtain ⟨v, ps, hr, hv⟩:=h1.lookup lawI Try.underlying63 (zeroB w) (plainElem_bool Try.underlying4 false) (Maps.keyOf_int_mk Try.underlying3 hx)
  rw [h2 x hx, hc] at hv
  have hu:=Try.underlying4
  unfold plainElem at hv
  rw [hu] at hv
  cases v <;> simp at hv
  rw [hr, hv.1]
theorem seen_store {w : World} {b n : Nat} {l : List Int} {x : Int} (h : SeenM w b n l) (hn : n < maxLen) (hx : (Lit.int .i64 x).wf = true) : ∃ w', (Instr.mapUpdate 63 (.map (some b)) (.int .i64 x) (.bool true)).run Try.prog w = .ok () w' ∧ SeenM w' b (n + 1) (l ++ [x]) ∧ w.grownBy w' (some b):=by
  obtain ⟨D, h1, h2⟩:=h
  obtain ⟨w', hr, ho, hg⟩:=h1.update lawI Try.underlying63 hn (Maps.keyOf_int_mk Try.underlying3 hx) (plainElem_bool Try.underlying4 true)
  refine ⟨w', hr, ⟨_, ho, fun y hy=>?_⟩, hg⟩
  by_cases e : y = x
  · subst e
    rw [Maps.atKey_put_same h1.isMap (by simp [WideAt.IsKeyLit])]
    simp
  · rw [Maps.atKey_put_other (by intro h;exact e (by injection h)), h2 y hy]
    simp [e]
end Go.Proofs.Ytooaldglgkjjgaa
/- the program's validWaiting (locks) -/
namespace Go.Proofs.Ytooaldglgkjjgaa
open Go.RowKit
open Go.Act renaming put → z0
open List renaming setIfInBounds_toArray → z1, set_cons_zero → z2, set_cons_succ → z3
set_option maxRecDepth 20000
set_option linter.unusedSimpArgs false
set_option linter.unusedVariables false

noncomputable def waitB (h l : List Gr) : Bool:=@decide (WaitOk h l) (Classical.propDecidable _)
theorem waitB_iff {h l : List Gr} : waitB h l = true ↔ WaitOk h l:=@decide_eq_true_iff _ (Classical.propDecidable _)
theorem waitB_no {h l : List Gr} (k : ¬ WaitOk h l) : waitB h l = false:=by
 cases e : waitB h l with
 | false=>rfl
 | true=>exact absurd (waitB_iff.1 e) k
theorem w_grant {h l : List Gr} {i : Nat} {x : Gr} (hx : l[i]? = some x) (k : grOkB x = false) : waitB h l = false:=waitB_no fun q=>by
 have:=grOkB_iff.2 (q.ok x (List.mem_of_getElem? hx)).1;rw [k] at this;cases this
theorem w_mode {h l : List Gr} {i : Nat} {x : Gr} (hx : l[i]? = some x) (k : x.mode ≤ modeR h x.tx x.page x.slot) : waitB h l = false:=waitB_no fun q=>by
 have h2 : modeR h x.tx x.page x.slot < x.mode:=(q.ok x (List.mem_of_getElem? hx)).2
 omega
theorem w_two {h l : List Gr} {i : Nat} {x : Gr} (hx : l[i]? = some x) (k : x.tx ∈ (l.take i).map Gr.tx) : waitB h l = false:=waitB_no fun q=>by
 obtain ⟨y, hy, he⟩:=List.mem_map.1 k
 obtain ⟨p, hp, rfl⟩:=List.mem_take_iff_getElem.1 hy
 obtain ⟨hi, rfl⟩:=List.getElem?_eq_some_iff.1 hx
 exact List.pairwise_iff_getElem.1 q.one p i (by omega) hi (by omega) he
theorem wpList_store_seen {ops : Array Oper} {rest : List Oper} {a : Act} {w : World} {Q : Exit → Act → World → Prop} {ty : TypeId} {pos : String} {aft : Array Edge} (m x : Operand) {b n : Nat} {l : List Int} {y : Int} (hs : SeenM w b n l) (hn : n < maxLen) (hy : (Lit.int .i64 y).wf = true)
  (hm : a.eval m = .map (some b)) (hx : a.eval x = .int .i64 y) (hk : ∀ w', SeenM w' b (n + 1) (l ++ [y]) → w.grownBy w' (some b) → wpList Try.prog ops Q rest a w') :
  wpList Try.prog ops Q ({ dst:=none, op:=.mapUpdate 63 m x (.const (.bool true)), type:=ty, pos:=pos, after:=aft, guard:=none } :: rest) a w:=by
 refine wpList_plain rfl fun K' hK'=>?_
 obtain ⟨w', hrun, r1, r2⟩:=seen_store hs hn hy
 have hc : a.eval (.const (.bool true)) = .bool true:=rfl
 unfold Oper.wp
 simp [execOp, hm, hx, hc, hrun, Result.andThen]
 exact hK' _ _ (hk w' r1 r2)
def BelW (w W : World) : Prop:=Below w.heap.size w W
/-- how the loop stands before its round i -/
structure WtRel (w : World) (cs : List Value) (l : List Gr) (i : Nat) (W : World) : Prop where
 old : Below w.heap.size w W
 box : W.heap[w.heap.size]? = some (.cells cs.toArray 25 (0, 0))
 seen : SeenM W (w.heap.size + 1) i ((l.take i).map Gr.tx)
theorem WtRel.next {w W V U : World} {cs : List Value} {l : List Gr} {i : Nat} {x : Gr} (h : WtRel w cs l i W) (hx : l[i]? = some x) (hb : Below W.heap.size W V) (hs : SeenM U (w.heap.size + 1) (i + 1) ((l.take i).map Gr.tx ++ [x.tx])) (hg : V.grownBy U (some (w.heap.size + 1))) : WtRel w cs l (i + 1) U:=by
 have h1:=(Array.getElem?_eq_some_iff.1 h.box).1
 have h2:=h.old.trans (hb.mono h.old.size)
 refine ⟨h2.grown hg h2.size (fun k hk=>by obtain rfl:=Option.some.inj hk;omega), ?_, ?_⟩
 ·rw [hg.block _ (Nat.lt_of_lt_of_le h1 hb.size) (by simp), hb.block _ h1];exact h.box
 ·rw [lk_take_snoc hx, List.map_append];exact hs
abbrev qPk6_0 : Oper:={ dst:=some 17, op:=Op.load 29 (Operand.tmp 5), type:=29, pos := "locks.go:70", after:=#[], guard:=none }
abbrev qPk6_1 : Oper:={ dst:=some 18, op:=Op.call { callee:=Callee.value (Operand.func 43), args:=#[Operand.tmp 17], argTypes:=#[29] }, type:=4, pos := "locks.go:70", after:=#[{ on:=0, ground:=Ground.data }], guard:=none }
abbrev qPk6_2 : Oper:={ dst:=some 19, op:=Op.unOp UnOp.not 4 (Operand.tmp 18), type:=4, pos := "locks.go:70", after:=#[{ on:=1, ground:=Ground.data }], guard:=none }
abbrev qPk6_3 : Oper:={ dst:=some 20, op:=Op.move (Operand.tmp 19), type:=4, pos := "locks.go:70", after:=#[{ on:=2, ground:=Ground.data }, { on:=1, ground:=Ground.chain }], guard:=none }
abbrev qPk6_4 : Oper:={ dst:=some 21, op:=Op.move (Operand.tmp 3), type:=63, pos := "locks.go:70", after:=#[{ on:=3, ground:=Ground.guard }], guard:=some (3, false) }
abbrev qPk6_5 : Oper:={ dst:=some 22, op:=Op.fieldAddr 29 (Operand.tmp 5) 0, type:=0, pos := "locks.go:70", after:=#[{ on:=3, ground:=Ground.guard }], guard:=some (3, false) }
abbrev qPk6_6 : Oper:={ dst:=some 23, op:=Op.load 3 (Operand.tmp 22), type:=3, pos := "locks.go:70", after:=#[{ on:=5, ground:=Ground.data }, { on:=3, ground:=Ground.guard }], guard:=some (3, false) }
abbrev qPk6_7 : Oper:={ dst:=some 24, op:=Op.lookup 63 (Operand.tmp 21) (Operand.tmp 23) false, type:=4, pos := "locks.go:70", after:=#[{ on:=4, ground:=Ground.data }, { on:=6, ground:=Ground.data }, { on:=3, ground:=Ground.guard }], guard:=some (3, false) }
abbrev qPk6_8 : Oper:={ dst:=some 25, op:=Op.pick (Operand.tmp 20) (Operand.const (Value.bool true)) (Operand.tmp 24), type:=4, pos := "locks.go:70", after:=#[{ on:=3, ground:=Ground.data }, { on:=7, ground:=Ground.data }], guard:=none }
abbrev qPk6_9 : Oper:={ dst:=some 26, op:=Op.move (Operand.tmp 25), type:=4, pos := "locks.go:70", after:=#[{ on:=8, ground:=Ground.data }, { on:=3, ground:=Ground.chain }], guard:=none }
abbrev qPk6_10 : Oper:={ dst:=some 27, op:=Op.fieldAddr 25 (Operand.tmp 1) 0, type:=0, pos := "locks.go:70", after:=#[{ on:=9, ground:=Ground.guard }], guard:=some (9, false) }
abbrev qPk6_11 : Oper:={ dst:=some 28, op:=Op.load 23 (Operand.tmp 27), type:=23, pos := "locks.go:70", after:=#[{ on:=10, ground:=Ground.data }, { on:=9, ground:=Ground.guard }], guard:=some (9, false) }
abbrev qPk6_12 : Oper:={ dst:=some 29, op:=Op.fieldAddr 29 (Operand.tmp 5) 0, type:=0, pos := "locks.go:70", after:=#[{ on:=9, ground:=Ground.guard }], guard:=some (9, false) }
abbrev qPk6_13 : Oper:={ dst:=some 30, op:=Op.load 3 (Operand.tmp 29), type:=3, pos := "locks.go:70", after:=#[{ on:=12, ground:=Ground.data }, { on:=9, ground:=Ground.guard }], guard:=some (9, false) }
abbrev qPk6_14 : Oper:={ dst:=some 31, op:=Op.fieldAddr 29 (Operand.tmp 5) 1, type:=0, pos := "locks.go:70", after:=#[{ on:=9, ground:=Ground.guard }], guard:=some (9, false) }
abbrev qPk6_15 : Oper:={ dst:=some 32, op:=Op.load 27 (Operand.tmp 31), type:=27, pos := "locks.go:70", after:=#[{ on:=14, ground:=Ground.data }, { on:=9, ground:=Ground.guard }], guard:=some (9, false) }
abbrev qPk6_16 : Oper:={ dst:=some 34, op:=Op.fieldAddr 29 (Operand.tmp 5) 2, type:=0, pos := "locks.go:70", after:=#[{ on:=9, ground:=Ground.guard }], guard:=some (9, false) }
abbrev qPk6_17 : Oper:={ dst:=some 35, op:=Op.load 3 (Operand.tmp 34), type:=3, pos := "locks.go:70", after:=#[{ on:=17, ground:=Ground.data }, { on:=9, ground:=Ground.guard }], guard:=some (9, false) }
abbrev qPk6_18 : Oper:={ dst:=some 33, op:=Op.call { callee:=Callee.value (Operand.func 44), args:=#[Operand.tmp 28, Operand.tmp 30, Operand.tmp 32], argTypes:=#[23, 3, 27] }, type:=3, pos := "locks.go:70", after:=#[{ on:=11, ground:=Ground.data }, { on:=13, ground:=Ground.data }, { on:=15, ground:=Ground.data }, { on:=9, ground:=Ground.chain }, { on:=9, ground:=Ground.guard }], guard:=some (9, false) }
abbrev qPk6_19 : Oper:={ dst:=some 36, op:=Op.binOp BinOp.geq 3 (Operand.tmp 33) (Operand.tmp 35) 3, type:=4, pos := "locks.go:70", after:=#[{ on:=16, ground:=Ground.data }, { on:=18, ground:=Ground.data }, { on:=9, ground:=Ground.guard }], guard:=some (9, false) }
abbrev qPk6_20 : Oper:={ dst:=some 37, op:=Op.pick (Operand.tmp 26) (Operand.const (Value.bool true)) (Operand.tmp 36), type:=4, pos := "locks.go:70", after:=#[{ on:=9, ground:=Ground.data }, { on:=19, ground:=Ground.data }], guard:=none }
set_option maxHeartbeats 8000000 in
theorem validWaiting_any {h v : Value} {t : Tb} {R : List Rng} (w : World) (ht : TbRd h v t R) (hR : RdIn w R) (hg : GoodTb t) (hh : HeldOk t.held) :
  Calls Try.prog 56 #[.agg (tbCells h v).toArray] w fun e w'=>e = .returned (.bool (waitB t.held t.wait)) ∧ Below w.heap.size w w':=by
 obtain ⟨a, cap, rfl, hnc, hcm⟩:=ht.1.shape
 have HMo : Hid (∀ tx k W, Below w.heap.size w W → Calls Try.prog 44 #[.slice a t.held.length cap, .int .i64 tx, .agg (lkCells k).toArray] W fun e w'=>e = .returned (.int .i64 (modeR t.held tx k.page k.slot)) ∧ Below W.heap.size W w'):=fun tx k W hb=>pmode_any tx k t.held _ R W hh.up ht.1 (hR.below hb) (by have:=hg.few;omega)
 obtain ⟨a2, cap2, rfl, hnc2, hcm2, hg0⟩:=SlRd.open ht.2 hR
 have HGe:=Lib.hid hg.wait
 have HN : Hid (t.wait.length ≤ 100000):=hg.few.2
 have HBx : Hid (∃ cs, cs = tbCells (.slice a t.held.length cap) (.slice a2 t.wait.length cap2)):=⟨_, rfl⟩
 have h1:=(Hp.start w).put 25 (tbCells (.slice a t.held.length cap) (.slice a2 t.wait.length cap2))
 have hbx : (w.alloc (.cells (tbCells (.slice a t.held.length cap) (.slice a2 t.wait.length cap2)).toArray 25)).heap[w.heap.size]? = some (.cells (tbCells (.slice a t.held.length cap) (.slice a2 t.wait.length cap2)).toArray 25 (0, 0)):=h1.get 0 rfl
 have HW0 : Hid (WtRel w (tbCells (.slice a t.held.length cap) (.slice a2 t.wait.length cap2)) t.wait 0 ((w.alloc (.cells (tbCells (.slice a t.held.length cap) (.slice a2 t.wait.length cap2)).toArray 25)).alloc (.map #[] 0))):=by
  refine ⟨h1.old.alloc h1.old.size _, ?_, ?_⟩
  ·have hlt:=(Array.getElem?_eq_some_iff.1 hbx).1
   rw [((Below.refl _ _).alloc (Nat.le_refl _) (.map #[] 0) : Below _ (w.alloc (.cells (tbCells (.slice a t.held.length cap) (.slice a2 t.wait.length cap2)).toArray 25)) _).block _ hlt]
   exact hbx
  ·have:=SeenM.made (w.alloc (.cells (tbCells (.slice a t.held.length cap) (.slice a2 t.wait.length cap2)).toArray 25))
   rw [World.size_alloc] at this
   exact this
 have hmk:=run_makeSet
 have b0' : (w.alloc (.cells (tbCells (.slice a t.held.length cap) (.slice a2 t.wait.length cap2)).toArray 25)).cell? ⟨w.heap.size, 1, none⟩ = some (.slice a2 t.wait.length cap2):=h1.at 0 rfl 1 rfl
 have HNg : Hid (∀ (i : Nat) (x : Gr), t.wait[i]? = some x → grOkB x = false → waitB t.held t.wait = false):=fun i x=>w_grant
 have HNm : Hid (∀ (i : Nat) (x : Gr), t.wait[i]? = some x → x.mode ≤ modeR t.held x.tx x.page x.slot → waitB t.held t.wait = false):=fun i x=>w_mode
 have HNt : Hid (∀ (i : Nat) (x : Gr), t.wait[i]? = some x → x.tx ∈ (t.wait.take i).map Gr.tx → waitB t.held t.wait = false):=fun i x=>w_two
 have HYes : Hid (WaitOk t.held t.wait → waitB t.held t.wait = true):=waitB_iff.2
 have hwsz : (w.alloc (.cells (tbCells (.slice a t.held.length cap) (.slice a2 t.wait.length cap2)).toArray 25)).heap.size = w.heap.size + 1:=by simp
 clear h1 hbx ht hR hg hh hnc hcm hnc2 hcm2 HBx
 obtain ⟨fs, hu⟩:=under_gr
 have HUG:=Lib.hid hu
 clear hu
 obtain ⟨fs2, hu2⟩:=under_lk
 have HUK:=Lib.hid hu2
 clear hu2
 generalize waitB t.held t.wait = ok at *
 go_enter Try.func56, Try.ntmps56
 go_upto_region 1 with (fail)
 generalize (w.alloc (.cells (tbCells (.slice a t.held.length cap) (.slice a2 t.wait.length cap2)).toArray 25)) = w1 at *
 go_upto_region 2 with (fail)
 clear hmk b0' hwsz
 generalize w1.alloc (.map #[] 0) = w2 at *
 have b1 : w2.cell? ⟨w.heap.size, 1, none⟩ = some (.slice a2 t.wait.length cap2):=by rw [cell_of_row w2 _ 1 _ _ _ HW0.out.box];rfl
 go_wp2_with fail
 clear b1
 go_loopw [13] (fun iv wr=>∃ i : Nat, i ≤ t.wait.length ∧ iv = .int .i64 i ∧ WaitOk t.held (t.wait.take i) ∧ WtRel w (tbCells (.slice a t.held.length cap) (.slice a2 t.wait.length cap2)) t.wait i wr) (fun iv _=>t.wait.length - (intOf iv).toNat)
 case atStart=>exact ⟨0, by omega, rfl, waitOk_nil _, HW0.out⟩
 case round =>
  clear HW0
  obtain ⟨i, hi, rfl, hh, hs⟩:=hrel
  have HQ:=Lib.hid hs
  have HH:=Lib.hid hh
  clear hs hh
  by_cases hlt : i < t.wait.length
  ·obtain ⟨g, off, rfl, hr⟩:=hg0.out (by omega)
   obtain ⟨x, hx⟩ : ∃ x, t.wait[i]? = some x:=⟨_, List.getElem?_eq_getElem hlt⟩
   have HBw : Hid (∀ W, BelW wr W → Below w.heap.size w W):=fun W (hb : Below wr.heap.size wr W)=>HQ.out.old.trans (hb.mono HQ.out.old.size)
   have HRg : Hid (∀ W, BelW wr W → W.rangeAt g (off + i * 4) (grCells x)):=fun W (hb : Below wr.heap.size wr W)=>elem_rng (hr W (HBw.out W hb)) hx
   have HBt : Hid (∀ W, BelW wr W → W.rangeAt w.heap.size 0 (tbCells (.slice a t.held.length cap) (.slice (some ⟨g, off, none⟩) t.wait.length cap2))):=fun W (hb : Below wr.heap.size wr W) j v hv=>by
    rw [Nat.zero_add, cell_of_row W _ j _ _ _ ((hb.block _ (Array.getElem?_eq_some_iff.1 HQ.out.box).1).trans HQ.out.box), List.getElem?_toArray];exact hv
   have HSe : Hid (∀ W, BelW wr W → SeenM W (w.heap.size + 1) i ((t.wait.take i).map Gr.tx)):=fun W (hb : Below wr.heap.size wr W)=>HQ.out.seen.below hb
   have HXi:=Lib.hid hx
   have HGx:=Lib.hid (HGe.out x (List.mem_of_getElem? hx))
   have HGr : Hid (∀ W, Calls Try.prog 43 #[.agg (grCells x).toArray] W fun e w'=>e = .returned (.bool (grOkB x)) ∧ Below W.heap.size W w'):=fun W=>pgrant_any x W
   have HOx:=Lib.hid (@grOkB_iff x)
   have HMx : Hid (∀ W, Below w.heap.size w W → Calls Try.prog 44 #[.slice a t.held.length cap, .int .i64 x.tx, .agg (lkCells x.lock).toArray] W fun e w'=>e = .returned (.int .i64 (modeR t.held x.tx x.page x.slot)) ∧ Below W.heap.size W w'):=fun W hb=>HMo.out x.tx x.lock W hb
   have hNx:=HNg.out i x hx
   have hNm:=HNm.out i x hx
   have hNt:=HNt.out i x hx
   have hii : (i : Int) < (t.wait.length : Int):=by omega
   have hi0 : (0 : Int) ≤ (i : Int):=by omega
   have hiw : IntKind.i64.wrap ((i : Int) + 1) = (i : Int) + 1:=IntWalk.i64_in _ (by have:=HN.out;omega)
   have HIm : Hid (i < maxLen):=by show i < _;have:=HN.out;unfold maxLen;omega
   have HLt:=Lib.hid hlt
   have HY:=Lib.hid (Hp.start wr)
   clear hr hi hx hg0 hlt HMo
   go_upto_region 5 with (first | ((with_reducible refine wpList_load_at 29 (.tmp 15) g ((off + i * 4)) (grCells x) HUG.out ?_ ?_ ?_ ?_ ?_);(exact rfl);(exact (HRg.out _ (HY.out).old));(exact rfl);(exact info_gr);simp only [z0, z1, z2, z3]) | ((with_reducible refine wpList_alloc_ob 29 (grCells grNil) ?_ ?_);(exact alloc_gr);simp only [z0, z1, z2, z3]) | ((with_reducible refine wpList_store_ob 29 (.tmp 5) (wr.heap.size) (grCells x) (grCells grNil) 29 ?_ ?_ ?_ ?_ ?_ ?_ ?_);(exact rfl);(exact rfl);(exact ((HY.out).put 29 (grCells grNil)).get 0 rfl);(exact info_gr);(exact rfl);(exact (oneCell_gr _));skip))
   have HS21 : Hid (Hp wr [.ob (wr.heap.size) 29 (grCells x)] ((wr.alloc (.cells (grCells grNil).toArray 29)).setRow (wr.heap.size) (grCells x).toArray)):=((HY.out).put 29 (grCells grNil)).row 0 rfl (grCells x)
   clear HY
   generalize ((wr.alloc (.cells (grCells grNil).toArray 29)).setRow (wr.heap.size) (grCells x).toArray) = w21 at *
   generalize wr.heap.size = B21 at *
   generalize grOkB x = gb at *
   obtain ⟨mo, hmoe⟩ : ∃ mo, modeR t.held x.tx x.page x.slot = mo:=⟨_, rfl⟩
   have HMe:=Lib.hid hmoe
   simp only [hmoe] at HMx hNm
   clear hmoe
   cases gb
   case false =>
    have HX:=Lib.hid (hNx rfl)
    clear hNx HOx hNm hNt
    refine wp_region_held_drew (S:=fun w'=>w'.rangeAt B21 0 (grCells x) ∧ w'.rangeAt w.heap.size 0 (tbCells (.slice a t.held.length cap) (.slice (some ⟨g, off, none⟩) t.wait.length cap2)) ∧ SeenM w' (w.heap.size + 1) i ((t.wait.take i).map Gr.tx)) (by kernel_rfl) (⟨(fun j v hv=>by rw [Nat.zero_add];exact ((HS21.out).drew).at 0 rfl j hv), (HBt.out _ ((HS21.out).drew).old), HSe.out _ ((HS21.out).drew).old⟩) (fun hHeld=>?_)
    refine tk 0 qPk6_0 (some 17) (yieldsIf_load_mid (by rfl) 29 (.tmp 5) rfl B21 (0) rfl (grCells x) _ (fun _ h=>h.1) HUG.out rfl (info_gr)) hHeld ?_
    try simp only [z0, z1, z2, z3]
    refine tn 1 qPk6_1 (fun K hK=>?_)
    go_simp
    go_wp2_with (go_at_call 43;refine (HGr.out _).mono ?_;rintro e w61 ⟨rfl, hb⟩)
    have HS61:=Lib.hid (((HS21.out).drew).calls hb)
    refine hK.out _ _ (⟨(fun j v hv=>by rw [Nat.zero_add];exact (HS61.out).at 0 rfl j hv), (HBt.out _ (HS61.out).old), HSe.out _ (HS61.out).old⟩) (fun hHeld=>?_)
    clear hK K hb
    try simp only [z0, z1, z2, z3]
    refine tk 2 qPk6_2 (some 19) (v:=.bool true) (Or.inl ⟨by rfl, ?q102h⟩) hHeld ?q102r
    case q102h=>(intro _ h;clear h;go_simp;try with_reducible rfl)
    try simp only [z0, z1, z2, z3]
    refine tk 3 qPk6_3 (some 20) (v:=?q103v) (Or.inl ⟨by rfl, ?q103h⟩) hHeld ?q103r
    case q103h=>(intro _ h;clear h;go_simp;try with_reducible rfl)
    try simp only [z0, z1, z2, z3]
    refine tk 4 qPk6_4 (some 21) (v:=undef) (Or.inr ⟨by rfl, rfl⟩) hHeld ?_
    try simp only [z0, z1, z2, z3]
    refine tk 5 qPk6_5 (some 22) (v:=undef) (Or.inr ⟨by rfl, rfl⟩) hHeld ?_
    try simp only [z0, z1, z2, z3]
    refine tk 6 qPk6_6 (some 23) (v:=undef) (Or.inr ⟨by rfl, rfl⟩) hHeld ?_
    try simp only [z0, z1, z2, z3]
    refine tk 7 qPk6_7 (some 24) (v:=undef) (Or.inr ⟨by rfl, rfl⟩) hHeld ?_
    try simp only [z0, z1, z2, z3]
    refine tk 8 qPk6_8 (some 25) (v:=?q108v) (Or.inl ⟨by rfl, ?q108h⟩) hHeld ?q108r
    case q108h=>(intro _ h;clear h;go_simp;try with_reducible rfl)
    try simp only [z0, z1, z2, z3]
    refine tk 9 qPk6_9 (some 26) (v:=?q109v) (Or.inl ⟨by rfl, ?q109h⟩) hHeld ?q109r
    case q109h=>(intro _ h;clear h;go_simp;try with_reducible rfl)
    try simp only [z0, z1, z2, z3]
    refine tk 10 qPk6_10 (some 27) (v:=undef) (Or.inr ⟨by rfl, rfl⟩) hHeld ?_
    try simp only [z0, z1, z2, z3]
    refine tk 11 qPk6_11 (some 28) (v:=undef) (Or.inr ⟨by rfl, rfl⟩) hHeld ?_
    try simp only [z0, z1, z2, z3]
    refine tk 12 qPk6_12 (some 29) (v:=undef) (Or.inr ⟨by rfl, rfl⟩) hHeld ?_
    try simp only [z0, z1, z2, z3]
    refine tk 13 qPk6_13 (some 30) (v:=undef) (Or.inr ⟨by rfl, rfl⟩) hHeld ?_
    try simp only [z0, z1, z2, z3]
    refine tk 14 qPk6_14 (some 31) (v:=undef) (Or.inr ⟨by rfl, rfl⟩) hHeld ?_
    try simp only [z0, z1, z2, z3]
    refine tk 15 qPk6_15 (some 32) (v:=undef) (Or.inr ⟨by rfl, rfl⟩) hHeld ?_
    try simp only [z0, z1, z2, z3]
    refine tk 17 qPk6_16 (some 34) (v:=undef) (Or.inr ⟨by rfl, rfl⟩) hHeld ?_
    try simp only [z0, z1, z2, z3]
    refine tk 18 qPk6_17 (some 35) (v:=undef) (Or.inr ⟨by rfl, rfl⟩) hHeld ?_
    try simp only [z0, z1, z2, z3]
    refine tn 16 qPk6_18 (fun K hK=>?_)
    rw [if_neg (by exact Bool.false_ne_true)]
    have HS62:=HS61
    refine hK.out _ _ (⟨(fun j v hv=>by rw [Nat.zero_add];exact (HS62.out).at 0 rfl j hv), (HBt.out _ (HS62.out).old), HSe.out _ (HS62.out).old⟩) (fun hHeld=>?_)
    clear hK K
    try simp only [z0, z1, z2, z3]
    refine tk 19 qPk6_19 (some 36) (v:=undef) (Or.inr ⟨by rfl, rfl⟩) hHeld ?_
    try simp only [z0, z1, z2, z3]
    refine tk 20 qPk6_20 (some 37) (v:=?q119v) (Or.inl ⟨by rfl, ?q119h⟩) hHeld ?q119r
    case q119h=>(intro _ h;clear h;go_simp;try with_reducible rfl)
    try simp only [z0, z1, z2, z3]
    refine wpAnyH_done (by kernel_rfl) ?_ _
    clear hHeld
    go_wp2_with fail
    go_ret
    exact ⟨by rw [HX.out];rfl, HBw.out _ (HS62.out).old⟩
   case true =>
    have HOk1:=Lib.hid (HOx.out.1 rfl)
    clear hNx HOx
    by_cases hm : x.tx ∈ (t.wait.take i).map Gr.tx
    ·have HX:=Lib.hid (hNt hm)
     have HMem:=Lib.hid (decide_eq_true hm)
     clear hNm hNt hm
     refine wp_region_held_drew (S:=fun w'=>w'.rangeAt B21 0 (grCells x) ∧ w'.rangeAt w.heap.size 0 (tbCells (.slice a t.held.length cap) (.slice (some ⟨g, off, none⟩) t.wait.length cap2)) ∧ SeenM w' (w.heap.size + 1) i ((t.wait.take i).map Gr.tx)) (by kernel_rfl) (⟨(fun j v hv=>by rw [Nat.zero_add];exact ((HS21.out).drew).at 0 rfl j hv), (HBt.out _ ((HS21.out).drew).old), HSe.out _ ((HS21.out).drew).old⟩) (fun hHeld=>?_)
     refine tk 0 qPk6_0 (some 17) (yieldsIf_load_mid (by rfl) 29 (.tmp 5) rfl B21 (0) rfl (grCells x) _ (fun _ h=>h.1) HUG.out rfl (info_gr)) hHeld ?_
     try simp only [z0, z1, z2, z3]
     refine tn 1 qPk6_1 (fun K hK=>?_)
     go_simp
     go_wp2_with (go_at_call 43;refine (HGr.out _).mono ?_;rintro e w61 ⟨rfl, hb⟩)
     have HS61:=Lib.hid (((HS21.out).drew).calls hb)
     refine hK.out _ _ (⟨(fun j v hv=>by rw [Nat.zero_add];exact (HS61.out).at 0 rfl j hv), (HBt.out _ (HS61.out).old), HSe.out _ (HS61.out).old⟩) (fun hHeld=>?_)
     clear hK K hb
     try simp only [z0, z1, z2, z3]
     refine tk 2 qPk6_2 (some 19) (v:=.bool false) (Or.inl ⟨by rfl, ?q202h⟩) hHeld ?q202r
     case q202h=>(intro _ h;clear h;go_simp;try with_reducible rfl)
     try simp only [z0, z1, z2, z3]
     refine tk 3 qPk6_3 (some 20) (v:=?q203v) (Or.inl ⟨by rfl, ?q203h⟩) hHeld ?q203r
     case q203h=>(intro _ h;clear h;go_simp;try with_reducible rfl)
     try simp only [z0, z1, z2, z3]
     refine tk 4 qPk6_4 (some 21) (v:=?q204v) (Or.inl ⟨by rfl, ?q204h⟩) hHeld ?q204r
     case q204h=>(intro _ h;clear h;go_simp;try with_reducible rfl)
     try simp only [z0, z1, z2, z3]
     refine tk 5 qPk6_5 (some 22) (v:=?q205v) (Or.inl ⟨by rfl, ?q205h⟩) hHeld ?q205r
     case q205h=>(intro _ h;clear h;go_simp;try with_reducible rfl)
     try simp only [z0, z1, z2, z3]
     refine tk 6 qPk6_6 (some 23) (v:=.int .i64 x.tx) (Or.inl ⟨by rfl, ?q206h⟩) hHeld ?q206r
     case q206h=>(intro wq hSw;have lq:=(hSw.1) 0 (.int .i64 x.tx) rfl;simp only [Nat.zero_add] at lq;clear hSw;go_simp;try with_reducible rfl)
     try simp only [z0, z1, z2, z3]
     refine tk 7 qPk6_7 (some 24) (v:=.bool true) (Or.inl ⟨by rfl, ?q207h⟩) hHeld ?q207r
     case q207h=>(intro wq hSw;have lq:=seen_look hSw.2.2 HGx.out.tx HMem.out;clear hSw;go_simp;try with_reducible rfl)
     try simp only [z0, z1, z2, z3]
     refine tk 8 qPk6_8 (some 25) (v:=?q208v) (Or.inl ⟨by rfl, ?q208h⟩) hHeld ?q208r
     case q208h=>(intro _ h;clear h;go_simp;try with_reducible rfl)
     try simp only [z0, z1, z2, z3]
     refine tk 9 qPk6_9 (some 26) (v:=?q209v) (Or.inl ⟨by rfl, ?q209h⟩) hHeld ?q209r
     case q209h=>(intro _ h;clear h;go_simp;try with_reducible rfl)
     try simp only [z0, z1, z2, z3]
     refine tk 10 qPk6_10 (some 27) (v:=undef) (Or.inr ⟨by rfl, rfl⟩) hHeld ?_
     try simp only [z0, z1, z2, z3]
     refine tk 11 qPk6_11 (some 28) (v:=undef) (Or.inr ⟨by rfl, rfl⟩) hHeld ?_
     try simp only [z0, z1, z2, z3]
     refine tk 12 qPk6_12 (some 29) (v:=undef) (Or.inr ⟨by rfl, rfl⟩) hHeld ?_
     try simp only [z0, z1, z2, z3]
     refine tk 13 qPk6_13 (some 30) (v:=undef) (Or.inr ⟨by rfl, rfl⟩) hHeld ?_
     try simp only [z0, z1, z2, z3]
     refine tk 14 qPk6_14 (some 31) (v:=undef) (Or.inr ⟨by rfl, rfl⟩) hHeld ?_
     try simp only [z0, z1, z2, z3]
     refine tk 15 qPk6_15 (some 32) (v:=undef) (Or.inr ⟨by rfl, rfl⟩) hHeld ?_
     try simp only [z0, z1, z2, z3]
     refine tk 17 qPk6_16 (some 34) (v:=undef) (Or.inr ⟨by rfl, rfl⟩) hHeld ?_
     try simp only [z0, z1, z2, z3]
     refine tk 18 qPk6_17 (some 35) (v:=undef) (Or.inr ⟨by rfl, rfl⟩) hHeld ?_
     try simp only [z0, z1, z2, z3]
     refine tn 16 qPk6_18 (fun K hK=>?_)
     rw [if_neg (by exact Bool.false_ne_true)]
     have HS62:=HS61
     refine hK.out _ _ (⟨(fun j v hv=>by rw [Nat.zero_add];exact (HS62.out).at 0 rfl j hv), (HBt.out _ (HS62.out).old), HSe.out _ (HS62.out).old⟩) (fun hHeld=>?_)
     clear hK K
     try simp only [z0, z1, z2, z3]
     refine tk 19 qPk6_19 (some 36) (v:=undef) (Or.inr ⟨by rfl, rfl⟩) hHeld ?_
     try simp only [z0, z1, z2, z3]
     refine tk 20 qPk6_20 (some 37) (v:=?q219v) (Or.inl ⟨by rfl, ?q219h⟩) hHeld ?q219r
     case q219h=>(intro _ h;clear h;go_simp;try with_reducible rfl)
     try simp only [z0, z1, z2, z3]
     refine wpAnyH_done (by kernel_rfl) ?_ _
     clear hHeld
     go_wp2_with fail
     go_ret
     exact ⟨by rw [HX.out];rfl, HBw.out _ (HS62.out).old⟩
    ·have HMem:=Lib.hid (decide_eq_false hm)
     have HM1:=Lib.hid hm
     clear hNt hm
     by_cases hmo : x.mode ≤ mo
     ·have HX:=Lib.hid (hNm hmo)
      have dmo : decide (x.mode ≤ mo) = true:=decide_eq_true hmo
      clear hNm hmo
      refine wp_region_held_drew (S:=fun w'=>w'.rangeAt B21 0 (grCells x) ∧ w'.rangeAt w.heap.size 0 (tbCells (.slice a t.held.length cap) (.slice (some ⟨g, off, none⟩) t.wait.length cap2)) ∧ SeenM w' (w.heap.size + 1) i ((t.wait.take i).map Gr.tx)) (by kernel_rfl) (⟨(fun j v hv=>by rw [Nat.zero_add];exact ((HS21.out).drew).at 0 rfl j hv), (HBt.out _ ((HS21.out).drew).old), HSe.out _ ((HS21.out).drew).old⟩) (fun hHeld=>?_)
      refine tk 0 qPk6_0 (some 17) (yieldsIf_load_mid (by rfl) 29 (.tmp 5) rfl B21 (0) rfl (grCells x) _ (fun _ h=>h.1) HUG.out rfl (info_gr)) hHeld ?_
      try simp only [z0, z1, z2, z3]
      refine tn 1 qPk6_1 (fun K hK=>?_)
      go_simp
      go_wp2_with (go_at_call 43;refine (HGr.out _).mono ?_;rintro e w61 ⟨rfl, hb⟩)
      have HS61:=Lib.hid (((HS21.out).drew).calls hb)
      refine hK.out _ _ (⟨(fun j v hv=>by rw [Nat.zero_add];exact (HS61.out).at 0 rfl j hv), (HBt.out _ (HS61.out).old), HSe.out _ (HS61.out).old⟩) (fun hHeld=>?_)
      clear hK K hb
      try simp only [z0, z1, z2, z3]
      refine tk 2 qPk6_2 (some 19) (v:=.bool false) (Or.inl ⟨by rfl, ?q302h⟩) hHeld ?q302r
      case q302h=>(intro _ h;clear h;go_simp;try with_reducible rfl)
      try simp only [z0, z1, z2, z3]
      refine tk 3 qPk6_3 (some 20) (v:=?q303v) (Or.inl ⟨by rfl, ?q303h⟩) hHeld ?q303r
      case q303h=>(intro _ h;clear h;go_simp;try with_reducible rfl)
      try simp only [z0, z1, z2, z3]
      refine tk 4 qPk6_4 (some 21) (v:=?q304v) (Or.inl ⟨by rfl, ?q304h⟩) hHeld ?q304r
      case q304h=>(intro _ h;clear h;go_simp;try with_reducible rfl)
      try simp only [z0, z1, z2, z3]
      refine tk 5 qPk6_5 (some 22) (v:=?q305v) (Or.inl ⟨by rfl, ?q305h⟩) hHeld ?q305r
      case q305h=>(intro _ h;clear h;go_simp;try with_reducible rfl)
      try simp only [z0, z1, z2, z3]
      refine tk 6 qPk6_6 (some 23) (v:=.int .i64 x.tx) (Or.inl ⟨by rfl, ?q306h⟩) hHeld ?q306r
      case q306h=>(intro wq hSw;have lq:=(hSw.1) 0 (.int .i64 x.tx) rfl;simp only [Nat.zero_add] at lq;clear hSw;go_simp;try with_reducible rfl)
      try simp only [z0, z1, z2, z3]
      refine tk 7 qPk6_7 (some 24) (v:=.bool false) (Or.inl ⟨by rfl, ?q307h⟩) hHeld ?q307r
      case q307h=>(intro wq hSw;have lq:=seen_look hSw.2.2 HGx.out.tx HMem.out;clear hSw;go_simp;try with_reducible rfl)
      try simp only [z0, z1, z2, z3]
      refine tk 8 qPk6_8 (some 25) (v:=?q308v) (Or.inl ⟨by rfl, ?q308h⟩) hHeld ?q308r
      case q308h=>(intro _ h;clear h;go_simp;try with_reducible rfl)
      try simp only [z0, z1, z2, z3]
      refine tk 9 qPk6_9 (some 26) (v:=?q309v) (Or.inl ⟨by rfl, ?q309h⟩) hHeld ?q309r
      case q309h=>(intro _ h;clear h;go_simp;try with_reducible rfl)
      try simp only [z0, z1, z2, z3]
      refine tk 10 qPk6_10 (some 27) (v:=?q310v) (Or.inl ⟨by rfl, ?q310h⟩) hHeld ?q310r
      case q310h=>(intro _ h;clear h;go_simp;try with_reducible rfl)
      try simp only [z0, z1, z2, z3]
      refine tk 11 qPk6_11 (some 28) (v:=.slice a t.held.length cap) (Or.inl ⟨by rfl, ?q311h⟩) hHeld ?q311r
      case q311h=>(intro wq hSw;have lq:=(hSw.2.1) 0 (.slice a t.held.length cap) rfl;simp only [Nat.zero_add] at lq;clear hSw;go_simp;try with_reducible rfl)
      try simp only [z0, z1, z2, z3]
      refine tk 12 qPk6_12 (some 29) (v:=?q312v) (Or.inl ⟨by rfl, ?q312h⟩) hHeld ?q312r
      case q312h=>(intro _ h;clear h;go_simp;try with_reducible rfl)
      try simp only [z0, z1, z2, z3]
      refine tk 13 qPk6_13 (some 30) (v:=.int .i64 x.tx) (Or.inl ⟨by rfl, ?q313h⟩) hHeld ?q313r
      case q313h=>(intro wq hSw;have lq:=(hSw.1) 0 (.int .i64 x.tx) rfl;simp only [Nat.zero_add] at lq;clear hSw;go_simp;try with_reducible rfl)
      try simp only [z0, z1, z2, z3]
      refine tk 14 qPk6_14 (some 31) (v:=?q314v) (Or.inl ⟨by rfl, ?q314h⟩) hHeld ?q314r
      case q314h=>(intro _ h;clear h;go_simp;try with_reducible rfl)
      try simp only [z0, z1, z2, z3]
      refine tk 15 qPk6_15 (some 32) (yieldsIf_load_mid (by rfl) 27 (.tmp 31) rfl B21 (1) rfl (lkCells x.lock) _ (fun _ h=>range_part (h.1) (mid_lk x)) HUK.out rfl (info_lk)) hHeld ?_
      try simp only [z0, z1, z2, z3]
      refine tk 17 qPk6_16 (some 34) (v:=?q316v) (Or.inl ⟨by rfl, ?q316h⟩) hHeld ?q316r
      case q316h=>(intro _ h;clear h;go_simp;try with_reducible rfl)
      try simp only [z0, z1, z2, z3]
      refine tk 18 qPk6_17 (some 35) (v:=.int .i64 x.mode) (Or.inl ⟨by rfl, ?q317h⟩) hHeld ?q317r
      case q317h=>(intro wq hSw;have lq:=(hSw.1) 3 (.int .i64 x.mode) rfl;simp only [Nat.zero_add] at lq;clear hSw;go_simp;try with_reducible rfl)
      try simp only [z0, z1, z2, z3]
      refine tn 16 qPk6_18 (fun K hK=>?_)
      go_simp
      go_wp2_with (go_at_call 44;refine (HMx.out _ (HBw.out _ (HS61.out).old)).mono ?_;rintro e w62 ⟨rfl, hb⟩)
      have HS62:=Lib.hid ((HS61.out).calls hb)
      refine hK.out _ _ (⟨(fun j v hv=>by rw [Nat.zero_add];exact (HS62.out).at 0 rfl j hv), (HBt.out _ (HS62.out).old), HSe.out _ (HS62.out).old⟩) (fun hHeld=>?_)
      clear hK K hb
      try simp only [z0, z1, z2, z3]
      refine tk 19 qPk6_19 (some 36) (v:=.bool true) (Or.inl ⟨by rfl, ?q318h⟩) hHeld ?q318r
      case q318h=>(intro _ h;clear h;go_simp;try with_reducible rfl)
      try simp only [z0, z1, z2, z3]
      refine tk 20 qPk6_20 (some 37) (v:=?q319v) (Or.inl ⟨by rfl, ?q319h⟩) hHeld ?q319r
      case q319h=>(intro _ h;clear h;go_simp;try with_reducible rfl)
      try simp only [z0, z1, z2, z3]
      refine wpAnyH_done (by kernel_rfl) ?_ _
      clear hHeld
      go_wp2_with fail
      go_ret
      exact ⟨by rw [HX.out];rfl, HBw.out _ (HS62.out).old⟩
     ·have dmo : decide (x.mode ≤ mo) = false:=decide_eq_false hmo
      have HMo2 : Hid (mo < x.mode):=by show _ < _;omega
      clear hNm hmo
      refine wp_region_held_drew (S:=fun w'=>w'.rangeAt B21 0 (grCells x) ∧ w'.rangeAt w.heap.size 0 (tbCells (.slice a t.held.length cap) (.slice (some ⟨g, off, none⟩) t.wait.length cap2)) ∧ SeenM w' (w.heap.size + 1) i ((t.wait.take i).map Gr.tx)) (by kernel_rfl) (⟨(fun j v hv=>by rw [Nat.zero_add];exact ((HS21.out).drew).at 0 rfl j hv), (HBt.out _ ((HS21.out).drew).old), HSe.out _ ((HS21.out).drew).old⟩) (fun hHeld=>?_)
      refine tk 0 qPk6_0 (some 17) (yieldsIf_load_mid (by rfl) 29 (.tmp 5) rfl B21 (0) rfl (grCells x) _ (fun _ h=>h.1) HUG.out rfl (info_gr)) hHeld ?_
      try simp only [z0, z1, z2, z3]
      refine tn 1 qPk6_1 (fun K hK=>?_)
      go_simp
      go_wp2_with (go_at_call 43;refine (HGr.out _).mono ?_;rintro e w61 ⟨rfl, hb⟩)
      have HS61:=Lib.hid (((HS21.out).drew).calls hb)
      refine hK.out _ _ (⟨(fun j v hv=>by rw [Nat.zero_add];exact (HS61.out).at 0 rfl j hv), (HBt.out _ (HS61.out).old), HSe.out _ (HS61.out).old⟩) (fun hHeld=>?_)
      clear hK K hb
      try simp only [z0, z1, z2, z3]
      refine tk 2 qPk6_2 (some 19) (v:=.bool false) (Or.inl ⟨by rfl, ?q402h⟩) hHeld ?q402r
      case q402h=>(intro _ h;clear h;go_simp;try with_reducible rfl)
      try simp only [z0, z1, z2, z3]
      refine tk 3 qPk6_3 (some 20) (v:=?q403v) (Or.inl ⟨by rfl, ?q403h⟩) hHeld ?q403r
      case q403h=>(intro _ h;clear h;go_simp;try with_reducible rfl)
      try simp only [z0, z1, z2, z3]
      refine tk 4 qPk6_4 (some 21) (v:=?q404v) (Or.inl ⟨by rfl, ?q404h⟩) hHeld ?q404r
      case q404h=>(intro _ h;clear h;go_simp;try with_reducible rfl)
      try simp only [z0, z1, z2, z3]
      refine tk 5 qPk6_5 (some 22) (v:=?q405v) (Or.inl ⟨by rfl, ?q405h⟩) hHeld ?q405r
      case q405h=>(intro _ h;clear h;go_simp;try with_reducible rfl)
      try simp only [z0, z1, z2, z3]
      refine tk 6 qPk6_6 (some 23) (v:=.int .i64 x.tx) (Or.inl ⟨by rfl, ?q406h⟩) hHeld ?q406r
      case q406h=>(intro wq hSw;have lq:=(hSw.1) 0 (.int .i64 x.tx) rfl;simp only [Nat.zero_add] at lq;clear hSw;go_simp;try with_reducible rfl)
      try simp only [z0, z1, z2, z3]
      refine tk 7 qPk6_7 (some 24) (v:=.bool false) (Or.inl ⟨by rfl, ?q407h⟩) hHeld ?q407r
      case q407h=>(intro wq hSw;have lq:=seen_look hSw.2.2 HGx.out.tx HMem.out;clear hSw;go_simp;try with_reducible rfl)
      try simp only [z0, z1, z2, z3]
      refine tk 8 qPk6_8 (some 25) (v:=?q408v) (Or.inl ⟨by rfl, ?q408h⟩) hHeld ?q408r
      case q408h=>(intro _ h;clear h;go_simp;try with_reducible rfl)
      try simp only [z0, z1, z2, z3]
      refine tk 9 qPk6_9 (some 26) (v:=?q409v) (Or.inl ⟨by rfl, ?q409h⟩) hHeld ?q409r
      case q409h=>(intro _ h;clear h;go_simp;try with_reducible rfl)
      try simp only [z0, z1, z2, z3]
      refine tk 10 qPk6_10 (some 27) (v:=?q410v) (Or.inl ⟨by rfl, ?q410h⟩) hHeld ?q410r
      case q410h=>(intro _ h;clear h;go_simp;try with_reducible rfl)
      try simp only [z0, z1, z2, z3]
      refine tk 11 qPk6_11 (some 28) (v:=.slice a t.held.length cap) (Or.inl ⟨by rfl, ?q411h⟩) hHeld ?q411r
      case q411h=>(intro wq hSw;have lq:=(hSw.2.1) 0 (.slice a t.held.length cap) rfl;simp only [Nat.zero_add] at lq;clear hSw;go_simp;try with_reducible rfl)
      try simp only [z0, z1, z2, z3]
      refine tk 12 qPk6_12 (some 29) (v:=?q412v) (Or.inl ⟨by rfl, ?q412h⟩) hHeld ?q412r
      case q412h=>(intro _ h;clear h;go_simp;try with_reducible rfl)
      try simp only [z0, z1, z2, z3]
      refine tk 13 qPk6_13 (some 30) (v:=.int .i64 x.tx) (Or.inl ⟨by rfl, ?q413h⟩) hHeld ?q413r
      case q413h=>(intro wq hSw;have lq:=(hSw.1) 0 (.int .i64 x.tx) rfl;simp only [Nat.zero_add] at lq;clear hSw;go_simp;try with_reducible rfl)
      try simp only [z0, z1, z2, z3]
      refine tk 14 qPk6_14 (some 31) (v:=?q414v) (Or.inl ⟨by rfl, ?q414h⟩) hHeld ?q414r
      case q414h=>(intro _ h;clear h;go_simp;try with_reducible rfl)
      try simp only [z0, z1, z2, z3]
      refine tk 15 qPk6_15 (some 32) (yieldsIf_load_mid (by rfl) 27 (.tmp 31) rfl B21 (1) rfl (lkCells x.lock) _ (fun _ h=>range_part (h.1) (mid_lk x)) HUK.out rfl (info_lk)) hHeld ?_
      try simp only [z0, z1, z2, z3]
      refine tk 17 qPk6_16 (some 34) (v:=?q416v) (Or.inl ⟨by rfl, ?q416h⟩) hHeld ?q416r
      case q416h=>(intro _ h;clear h;go_simp;try with_reducible rfl)
      try simp only [z0, z1, z2, z3]
      refine tk 18 qPk6_17 (some 35) (v:=.int .i64 x.mode) (Or.inl ⟨by rfl, ?q417h⟩) hHeld ?q417r
      case q417h=>(intro wq hSw;have lq:=(hSw.1) 3 (.int .i64 x.mode) rfl;simp only [Nat.zero_add] at lq;clear hSw;go_simp;try with_reducible rfl)
      try simp only [z0, z1, z2, z3]
      refine tn 16 qPk6_18 (fun K hK=>?_)
      go_simp
      go_wp2_with (go_at_call 44;refine (HMx.out _ (HBw.out _ (HS61.out).old)).mono ?_;rintro e w62 ⟨rfl, hb⟩)
      have HS62:=Lib.hid ((HS61.out).calls hb)
      refine hK.out _ _ (⟨(fun j v hv=>by rw [Nat.zero_add];exact (HS62.out).at 0 rfl j hv), (HBt.out _ (HS62.out).old), HSe.out _ (HS62.out).old⟩) (fun hHeld=>?_)
      clear hK K hb
      try simp only [z0, z1, z2, z3]
      refine tk 19 qPk6_19 (some 36) (v:=.bool false) (Or.inl ⟨by rfl, ?q418h⟩) hHeld ?q418r
      case q418h=>(intro _ h;clear h;go_simp;try with_reducible rfl)
      try simp only [z0, z1, z2, z3]
      refine tk 20 qPk6_20 (some 37) (v:=?q419v) (Or.inl ⟨by rfl, ?q419h⟩) hHeld ?q419r
      case q419h=>(intro _ h;clear h;go_simp;try with_reducible rfl)
      try simp only [z0, z1, z2, z3]
      refine wpAnyH_done (by kernel_rfl) ?_ _
      clear hHeld
      have xt : w62.cell? ⟨B21, 0, none⟩ = some (.int .i64 x.tx):=HS62.out.at 0 rfl 0 rfl
      have HSn:=Lib.hid (HSe.out _ HS62.out.old)
      go_wp2_with (first | ((with_reducible refine wpList_store_seen (.tmp 38) (.tmp 40) HSn.out HIm.out HGx.out.tx ?_ ?_ ?_);(exact rfl);(exact rfl)))
      intro w90 hsn hgn
      have HF:=Lib.hid (HQ.out.next HXi.out HS62.out.old hsn hgn)
      clear hsn hgn xt
      go_wp2_with fail
      go_roundw
      case rel=>exact ⟨i + 1, HLt.out, by go_num, by rw [lk_take_snoc HXi.out];exact wait_snoc HH.out HOk1.out (by rw [HMe.out];exact HMo2.out) (fun y hy e=>HM1.out (List.mem_map.2 ⟨y, hy, e⟩)), HF.out⟩
      case measure=>simp [intOf];try (have:=HLt.out;omega)
  ·obtain rfl : i = t.wait.length:=by omega
   have HX:=Lib.hid (HYes.out (by have:=HH.out;rwa [List.take_length] at this))
   clear hlt hi HH
   go_wp2_with fail
   go_ret
   exact ⟨by rw [HX.out];rfl, HQ.out.old⟩
end Go.Proofs.Ytooaldglgkjjgaa
/- the program's Valid, Mode, Waiting (locks) -/
namespace Go.Proofs.Ytooaldglgkjjgaa
open Go.RowKit
open Go.Act renaming put → z0
open List renaming setIfInBounds_toArray → z1, set_cons_zero → z2, set_cons_succ → z3
set_option maxRecDepth 20000
set_option linter.unusedSimpArgs false
set_option linter.unusedVariables false

theorem ok_parts (t : Tb) : tbOkB t = (decide (t.held.length + t.wait.length ≤ 1024) && (heldB t.held && waitB t.held t.wait)):=by
 rw [Bool.eq_iff_iff, tbOkB_iff, Bool.and_eq_true, Bool.and_eq_true, decide_eq_true_eq, heldB_iff, waitB_iff]
 exact ⟨fun h=>⟨h.few, h.tin.held, h.tin.wait⟩, fun h=>⟨h.1, ⟨h.2.1, h.2.2⟩⟩⟩
set_option maxHeartbeats 4000000 in
theorem plkvalid_any {h v : Value} {t : Tb} {R : List Rng} (w : World) (ht : TbRd h v t R) (hR : RdIn w R) (hg : GoodTb t) :
  Calls Try.prog 29 #[.agg (tbCells h v).toArray] w fun e w'=>e = .returned (.bool (tbOkB t)) ∧ Below w.heap.size w w':=by
 obtain ⟨a, cap, rfl, hnc, hcm⟩:=ht.1.shape
 obtain ⟨a2, cap2, rfl, hnc2, hcm2⟩:=ht.2.shape
 have HSz : Hid (∀ W, Calls Try.prog 45 #[.agg (tbCells (.slice a t.held.length cap) (.slice a2 t.wait.length cap2)).toArray] W fun e w'=>e = .returned (.int .i64 ((t.held.length : Int) + (t.wait.length : Int))) ∧ Below W.heap.size W w'):=fun W=>size_any W ht hg
 have HHd : Hid (∀ W, Below w.heap.size w W → Calls Try.prog 55 #[.slice a t.held.length cap] W fun e w'=>e = .returned (.bool (heldB t.held)) ∧ Below W.heap.size W w'):=fun W hb=>validHeld_any t.held _ R W ht.1 (hR.below hb) hg.held hg.few.1
 have HWt : Hid (heldB t.held = true → ∀ W, Below w.heap.size w W → Calls Try.prog 56 #[.agg (tbCells (.slice a t.held.length cap) (.slice a2 t.wait.length cap2)).toArray] W fun e w'=>e = .returned (.bool (waitB t.held t.wait)) ∧ Below W.heap.size W w'):=fun hh W hb=>validWaiting_any W ht (hR.below hb) hg (heldB_iff.1 hh)
 have HV:=Lib.hid (ok_parts t)
 clear ht hR hg
 obtain ⟨fs, hu⟩:=under_tb
 have HUT:=Lib.hid hu
 clear hu
 have h1:=(Hp.start w).put 25 (tbCells (.slice a t.held.length cap) (.slice a2 t.wait.length cap2))
 have HS0 : Hid (Hp w [.ob w.heap.size 25 (tbCells (.slice a t.held.length cap) (.slice a2 t.wait.length cap2))] (w.alloc (.cells (tbCells (.slice a t.held.length cap) (.slice a2 t.wait.length cap2)).toArray 25))):=h1
 clear h1
 obtain ⟨ok, hok⟩ : ∃ ok, tbOkB t = ok:=⟨_, rfl⟩
 rw [hok] at HV ⊢
 clear hok
 generalize heldB t.held = hd at *
 generalize waitB t.held t.wait = wt at *
 go_enter Try.func29, Try.ntmps29
 go_upto_region 1 with (fail)
 generalize (w.alloc (.cells (tbCells (.slice a t.held.length cap) (.slice a2 t.wait.length cap2)).toArray 25)) = w1 at *
 go_wp2_with (first | ((with_reducible refine wpList_load_ob 25 (.tmp 1) w.heap.size (tbCells (.slice a t.held.length cap) (.slice a2 t.wait.length cap2)) 25 HUT.out ?_ ?_ ?_ ?_ ?_);(exact rfl);(exact HS0.out.get 0 rfl);(exact rfl);(exact info_tb);simp only [z0, z1, z2, z3]) | ((with_reducible refine wpList_load_ob_w 25 (.tmp 1) w.heap.size (tbCells (.slice a t.held.length cap) (.slice a2 t.wait.length cap2)) 25 HUT.out ?_ ?_ ?_ ?_ ?_ ?_);(exact rfl);(exact rfl);(exact HS0.out.get 0 rfl);(exact rfl);(exact info_tb);simp only [z0, z1, z2, z3]))
 refine (HSz.out _).mono ?_
 rintro e w2 ⟨rfl, hb⟩
 have HS1:=Lib.hid (HS0.out.calls hb)
 clear HS0 hb HSz
 by_cases hle : t.held.length + t.wait.length ≤ 1024
 ·have hle' : ((t.held.length : Int) + (t.wait.length : Int)) ≤ 1024:=by omega
  have HV2 : Hid (ok = (hd && wt)):=Lib.hid (by rw [HV.out, decide_eq_true hle];rfl)
  clear hle HV
  have b0 : w2.cell? ⟨w.heap.size, 0, none⟩ = some (.slice a t.held.length cap):=HS1.out.at 0 rfl 0 rfl
  have b1 : w2.cell? ⟨w.heap.size, 1, none⟩ = some (.slice a2 t.wait.length cap2):=HS1.out.at 0 rfl 1 rfl
  go_wp2_with fail
  refine (HHd.out _ HS1.out.old).mono ?_
  rintro e w3 ⟨rfl, hb⟩
  have HS2:=Lib.hid (HS1.out.calls hb)
  clear b0 b1 HS1 hb HHd
  cases hd
  ·have HX : Hid (ok = false):=Lib.hid (by rw [HV2.out];rfl)
   go_wp2_with fail
   go_ret
   exact ⟨by rw [HX.out];rfl, HS2.out.old⟩
  ·have HX : Hid (ok = wt):=Lib.hid (by rw [HV2.out];rfl)
   have HWu:=Lib.hid (HWt.out rfl)
   clear HWt HV2
   go_wp2_with (first | ((with_reducible refine wpList_load_ob 25 (.tmp 1) w.heap.size (tbCells (.slice a t.held.length cap) (.slice a2 t.wait.length cap2)) 25 HUT.out ?_ ?_ ?_ ?_ ?_);(exact rfl);(exact HS2.out.get 0 rfl);(exact rfl);(exact info_tb);simp only [z0, z1, z2, z3]) | ((with_reducible refine wpList_load_ob_w 25 (.tmp 1) w.heap.size (tbCells (.slice a t.held.length cap) (.slice a2 t.wait.length cap2)) 25 HUT.out ?_ ?_ ?_ ?_ ?_ ?_);(exact rfl);(exact rfl);(exact HS2.out.get 0 rfl);(exact rfl);(exact info_tb);simp only [z0, z1, z2, z3]))
   refine (HWu.out _ HS2.out.old).mono ?_
   rintro e w4 ⟨rfl, hb⟩
   have HS3:=Lib.hid (HS2.out.calls hb)
   clear HS2 hb HWu
   go_wp2_with fail
   go_ret
   exact ⟨by rw [HX.out];rfl, HS3.out.old⟩
 ·have hle' : ¬ ((t.held.length : Int) + (t.wait.length : Int)) ≤ 1024:=by omega
  have HX : Hid (ok = false):=Lib.hid (by rw [HV.out, decide_eq_false hle];rfl)
  clear hle HV
  go_wp2_with fail
  go_ret
  exact ⟨by rw [HX.out];rfl, HS1.out.old⟩
end Go.Proofs.Ytooaldglgkjjgaa
/- what the program makes to find grants; what a transaction waits for; where a request goes (locks) -/
namespace Go.Proofs.Ytooaldglgkjjgaa
open Go.RowKit
set_option maxRecDepth 20000
set_option linter.unusedSimpArgs false
set_option linter.unusedVariables false

def FnPost (g : Nat) (cs : List Value) (w : World) (e : Ending) (w' : World) : Prop :=
  ∃ b, e = .returned (.func (.func g) #[] #[.pointer (some ⟨b, 0, none⟩)]) ∧ RdIn w' [(b, 0, cs)] ∧ w.heap.size ≤ b ∧ Below w.heap.size w w'
theorem rd_new {w : World} {t : TypeId} {cs : List Value} : RdIn (w.alloc (.cells cs.toArray t)) [(w.heap.size, 0, cs)]:=fun r hr=>by
  obtain rfl:=List.mem_singleton.1 hr
  refine ⟨by simp, fun j u hu=>?_⟩
  rw [cell_of_row _ _ _ _ _ _ (heap_alloc_last w _), List.getElem?_toArray, Nat.zero_add]
  exact hu
theorem of_any (tx : Int) (w : World) : Calls Try.prog 40 #[.int .i64 tx] w (FnPost 69 [.int .i64 tx] w):=by
  have HE : Hid (FnPost 69 [.int .i64 tx] w (.returned (.func (.func 69) #[] #[.pointer (some ⟨w.heap.size, 0, none⟩)])) (w.alloc (.cells [Value.int .i64 tx].toArray 3))):=⟨_, rfl, rd_new, Nat.le_refl _, (Below.refl _ _).alloc (Nat.le_refl _) _⟩
  go_enter Try.func40, Try.ntmps40
  go_wp2
  go_ret
  exact HE.out
theorem against_any (g : Gr) (w : World) : Calls Try.prog 66 #[.agg (grCells g).toArray] w (FnPost 90 (grCells g) w):=by
  have HE : Hid (FnPost 90 (grCells g) w (.returned (.func (.func 90) #[] #[.pointer (some ⟨w.heap.size, 0, none⟩)])) (w.alloc (.cells (grCells g).toArray 29))):=⟨_, rfl, rd_new, Nat.le_refl _, (Below.refl _ _).alloc (Nat.le_refl _) _⟩
  go_enter Try.func66, Try.ntmps66
  go_wp2
  go_ret
  exact HE.out
end Go.Proofs.Ytooaldglgkjjgaa
/- the program's waiting and Waiting (locks) -/
namespace Go.Proofs.Ytooaldglgkjjgaa
open Go.RowKit
open Go.Act renaming put → z0
open List renaming setIfInBounds_toArray → z1, set_cons_zero → z2, set_cons_succ → z3
set_option maxRecDepth 20000
set_option linter.unusedSimpArgs false
set_option linter.unusedVariables false

theorem idxR_neg {α : Type} {p : α → Bool} {l : List α} (h : idxR p l = -1) : l.all (fun x=>!p x) = true:=by
 unfold idxR at h
 cases hf : l.findIdx? p with
 | none =>
  rw [List.findIdx?_eq_none_iff] at hf
  exact List.all_eq_true.2 (fun x hx=>by simpa using hf x hx)
 | some i=>rw [hf] at h;simp at h
theorem idxR_pos {α : Type} {p : α → Bool} {l : List α} (h : ¬ idxR p l = -1) : ∃ k, ∃ hk : k < l.length, idxR p l = (k : Int) ∧ (l.take k).all (fun x=>!p x) = true ∧ p l[k] = true:=by
 unfold idxR at h ⊢
 cases hf : l.findIdx? p with
 | none=>rw [hf] at h;exact absurd rfl h
 | some i =>
  have hf':=List.findIdx?_eq_some_iff_getElem.1 hf
  obtain ⟨hi, hx, hb⟩:=hf'
  refine ⟨i, hi, rfl, List.all_eq_true.2 (fun x hx=>?_), hx⟩
  obtain ⟨j, hj, rfl⟩:=List.mem_take_iff_getElem.1 hx
  simpa using hb j (by omega)
theorem wfind_idx (l : List Gr) (tx : Int) : (idxR (fun x : Gr=>decide (x.tx = tx)) l = -1 ∧ wfind l tx = none) ∨ ∃ (k : Nat) (x : Gr), k < l.length ∧ l[k]? = some x ∧ idxR (fun x : Gr=>decide (x.tx = tx)) l = (k : Int) ∧ wfind l tx = some x:=by
 by_cases h : idxR (fun x : Gr=>decide (x.tx = tx)) l = -1
 ·refine .inl ⟨h, wfind_none_of (fun x hx=>?_)⟩
  have:=List.all_eq_true.1 (idxR_neg h) x hx
  simpa using this
 ·obtain ⟨k, hk, e, ha, hx⟩:=idxR_pos h
  refine .inr ⟨k, l[k], hk, List.getElem?_eq_getElem hk, e, wfind_first (fun q hq z hz=>?_) (List.getElem?_eq_getElem hk) (by simpa using hx)⟩
  have hm : z ∈ l.take k:=by
   obtain ⟨h1, rfl⟩:=List.getElem?_eq_some_iff.1 hz
   exact List.mem_take_iff_getElem.2 ⟨q, by omega, rfl⟩
  have:=List.all_eq_true.1 ha z hm
  simpa using this
abbrev qPk9_0 : Oper:={ dst:=some 7, op:=Op.fieldAddr 25 (Operand.tmp 2) 1, type:=0, pos := "locks.go:96", after:=#[], guard:=none }
abbrev qPk9_1 : Oper:={ dst:=some 8, op:=Op.load 23 (Operand.tmp 7), type:=23, pos := "locks.go:96", after:=#[{ on:=0, ground:=Ground.data }], guard:=none }
abbrev qPk9_2 : Oper:={ dst:=some 9, op:=Op.move (Operand.tmp 1), type:=3, pos := "locks.go:96", after:=#[], guard:=none }
abbrev qPk9_3 : Oper:={ dst:=some 10, op:=Op.call { callee:=Callee.value (Operand.func 40), args:=#[Operand.tmp 9], argTypes:=#[3] }, type:=69, pos := "locks.go:96", after:=#[{ on:=2, ground:=Ground.data }], guard:=none }
abbrev qPk9_4 : Oper:={ dst:=some 11, op:=Op.call { callee:=Callee.value (Operand.func 59), args:=#[Operand.tmp 8, Operand.tmp 10], argTypes:=#[23, 69] }, type:=3, pos := "locks.go:96", after:=#[{ on:=1, ground:=Ground.data }, { on:=3, ground:=Ground.data }, { on:=3, ground:=Ground.chain }], guard:=none }
abbrev qPk9_5 : Oper:={ dst:=some 6, op:=Op.assign (Operand.tmp 11), type:=3, pos := "locks.go:96", after:=#[{ on:=4, ground:=Ground.data }, { on:=4, ground:=Ground.chain }, { on:=0, ground:=Ground.phase }, { on:=1, ground:=Ground.phase }, { on:=2, ground:=Ground.phase }, { on:=3, ground:=Ground.phase }, { on:=4, ground:=Ground.phase }], guard:=none }
set_option maxHeartbeats 8000000 in
theorem pwaiting_any {h v : Value} {t : Tb} {R : List Rng} (tx : Int) (w : World) (ht : TbRd h v t R) (hR : RdIn w R) (hg : GoodTb t) :
  Calls Try.prog 42 #[.agg (tbCells h v).toArray, .int .i64 tx] w fun e w'=>e = .returned (.tuple #[.agg (grCells ((wfind t.wait tx).getD grNil)).toArray, .bool (wfind t.wait tx).isSome]) ∧ Below w.heap.size w w':=by
 obtain ⟨a, cap, rfl, hnc, hcm⟩:=ht.1.shape
 obtain ⟨a2, cap2, rfl, hnc2, hcm2⟩:=ht.2.shape
 obtain ⟨_, _, e2, _, _, hg0⟩:=SlRd.open ht.2 hR
 cases e2
 have HIx : Hid (∀ b W, Below w.heap.size w W → RdIn W [(b, 0, [.int .i64 tx])] → Calls Try.prog 59 #[.slice a2 t.wait.length cap2, .func (.func 69) #[] #[.pointer (some ⟨b, 0, none⟩)]] W fun e w'=>e = .returned (.int .i64 (idxR (fun x : Gr=>decide (x.tx = tx)) t.wait)) ∧ Below W.heap.size W w'):=fun b W hb hr=>idxGr_any _ _ _ t.wait _ R W eg_of ((of_at tx b t.wait).fn hr) ht.2 (hR.below hb) (by have:=hg.few;omega)
 have HNw : Hid ((t.wait.length : Int) ≤ 100000):=Lib.hid (by have:=hg.few;omega)
 have HWf:=Lib.hid (wfind_idx t.wait tx)
 have h1:=(((Hp.start w).put 25 (tbCells (.slice a t.held.length cap) (.slice a2 t.wait.length cap2))).put 29 (grCells grNil))
 simp only [World.size_alloc, List.nil_append, List.cons_append] at h1
 have HS0 : Hid (Hp w [.ob w.heap.size 25 (tbCells (.slice a t.held.length cap) (.slice a2 t.wait.length cap2)), .ob (w.heap.size + 1) 29 (grCells grNil)] ((w.alloc (.cells (tbCells (.slice a t.held.length cap) (.slice a2 t.wait.length cap2)).toArray 25)).alloc (.cells #[.int .i64 0, .int .i64 0, .int .i64 0, .int .i64 0] 29))):=h1
 clear h1 ht hR hg hnc hcm hnc2 hcm2
 obtain ⟨fsHUG, huHUG⟩:=under_gr
 have HUG:=Lib.hid huHUG
 clear huHUG
 obtain ⟨fsHUT, huHUT⟩:=under_tb
 have HUT:=Lib.hid huHUT
 clear huHUT
 generalize idxR (fun x : Gr=>decide (x.tx = tx)) t.wait = ix at *
 obtain ⟨wf, hwf⟩ : ∃ wf, wfind t.wait tx = wf:=⟨_, rfl⟩
 rw [hwf] at HWf ⊢
 clear hwf
 go_enter Try.func42, Try.ntmps42
 go_upto_region 1 with (fail)
 generalize ((w.alloc (.cells (tbCells (.slice a t.held.length cap) (.slice a2 t.wait.length cap2)).toArray 25)).alloc (.cells #[.int .i64 0, .int .i64 0, .int .i64 0, .int .i64 0] 29)) = w1 at *
 generalize w.heap.size + 1 = b3 at *
 refine wp_region_held_drew (S:=fun w'=>w'.rangeAt w.heap.size 0 (tbCells (.slice a t.held.length cap) (.slice a2 t.wait.length cap2))) (by kernel_rfl) ((fun j v hv=>by rw [Nat.zero_add];exact ((HS0.out).drew).at 0 rfl j hv)) (fun hHeld=>?_)
 refine tk 0 qPk9_0 (some 7) (v:=?q1v) (Or.inl ⟨by rfl, ?q1h⟩) hHeld ?q1r
 case q1h=>(intro _ h;clear h;go_simp;try with_reducible rfl)
 try simp only [z0, z1, z2, z3]
 refine tk 1 qPk9_1 (some 8) (v:=.slice a2 t.wait.length cap2) (Or.inl ⟨by rfl, ?q2h⟩) hHeld ?q2r
 case q2h=>(intro wq hSw;have lq:=(hSw) 1 (.slice a2 t.wait.length cap2) rfl;simp only [Nat.zero_add] at lq;clear hSw;go_simp;try with_reducible rfl)
 try simp only [z0, z1, z2, z3]
 refine tk 2 qPk9_2 (some 9) (v:=?q3v) (Or.inl ⟨by rfl, ?q3h⟩) hHeld ?q3r
 case q3h=>(intro _ h;clear h;go_simp;try with_reducible rfl)
 try simp only [z0, z1, z2, z3]
 refine tn 3 qPk9_3 (fun K hK=>?_)
 go_simp
 go_wp2_with (go_at_call 40;refine (of_any tx _).mono ?_;rintro e w21 ⟨bf, rfl, hin, hnw, hb⟩)
 have HS21 : Hid (Hp w [.ob (w.heap.size) 25 (tbCells (.slice a t.held.length cap) (.slice a2 t.wait.length cap2)), .ob b3 29 (grCells grNil), .rd [(bf, 0, [.int .i64 tx])]] w21):=((HS0.out).drew).addrd hb [(bf, 0, [.int .i64 tx])] hin (fun r hr=>.inl (by obtain rfl:=List.mem_singleton.1 hr;exact hnw))
 refine hK.out _ _ ((fun j v hv=>by rw [Nat.zero_add];exact (HS21.out).at 0 rfl j hv)) (fun hHeld=>?_)
 clear hK K hb hin hnw
 try simp only [z0, z1, z2, z3]
 refine tn 4 qPk9_4 (fun K hK=>?_)
 go_simp
 go_wp2_with (go_at_call 59;refine (HIx.out _ _ (HS21.out).old ((HS21.out).reads 2 rfl)).mono ?_;rintro e w22 ⟨rfl, hb⟩)
 have HS22:=Lib.hid ((HS21.out).calls hb)
 refine hK.out _ _ ((fun j v hv=>by rw [Nat.zero_add];exact (HS22.out).at 0 rfl j hv)) (fun hHeld=>?_)
 clear hK K hb
 try simp only [z0, z1, z2, z3]
 refine tk 5 qPk9_5 (some 6) (v:=?q4v) (Or.inl ⟨by rfl, ?q4h⟩) hHeld ?q4r
 case q4h=>(intro _ h;clear h;go_simp;try with_reducible rfl)
 try simp only [z0, z1, z2, z3]
 refine wpAnyH_done (by kernel_rfl) ?_ _
 clear hHeld HIx
 have HS23 : Hid (Hp w [.ob (w.heap.size) 25 (tbCells (.slice a t.held.length cap) (.slice a2 t.wait.length cap2)), .ob b3 29 (grCells grNil)] w22):=HS22.out.pull [0, 1] rfl (pull_nd HS22.out.nd [0, 1] rfl (by decide))
 clear HS22
 rcases HWf.out with ⟨hix, hwf⟩ | ⟨k, x, hk, hx, hix, hwf⟩
 ·subst hix
  subst hwf
  clear HWf
  go_wp2_with (first | ((with_reducible refine wpList_build_v (d:=some 19) 29 (.agg (grCells grNil).toArray) ?_ ?_);(intro W;simp only [List.map_toArray, List.map_cons, List.map_nil];exact build_gr0 W);simp only [z0, z1, z2, z3]) | ((with_reducible refine wpList_store_ob 29 (.tmp 4) b3 (grCells grNil) (grCells grNil) 29 ?_ ?_ ?_ ?_ ?_ ?_ ?_);(exact rfl);(exact rfl);(exact (HS23.out).get 1 rfl);(exact info_gr);(exact rfl);(exact (oneCell_gr _));skip))
  have HS24 : Hid (Hp w [.ob (w.heap.size) 25 (tbCells (.slice a t.held.length cap) (.slice a2 t.wait.length cap2)), .ob b3 29 (grCells grNil)] (w22.setRow b3 (grCells grNil).toArray)):=(HS23.out).row 1 rfl (grCells grNil)
  clear HS23
  generalize (w22.setRow b3 (grCells grNil).toArray) = w23 at *
  refine bodyPost_ret (results_ob_tmp Try.results42 _ _ b3 (grCells grNil) 29 _ rfl ((HS24.out).get 1 rfl) HUG.out rfl info_gr) rfl ?_
  exact ⟨rfl, (HS24.out).old⟩
 ·obtain ⟨g, off, rfl, hr⟩:=hg0.out (by omega)
  have HRg:=Lib.hid hr
  have HXi:=Lib.hid hx
  have hk0 : (0 : Int) ≤ (k : Int):=by omega
  have hki : (k : Int) < (t.wait.length : Int):=by omega
  subst hix
  subst hwf
  have b1 : w22.cell? ⟨w.heap.size, 1, none⟩ = some (.slice (some ⟨g, off, none⟩) t.wait.length cap2):=(HS23.out).at 0 rfl 1 rfl
  clear hr hx hk hg0 HWf
  go_wp2_with (first | ((with_reducible refine wpList_load_at 29 (.tmp 17) g ((off + k * 4)) (grCells x) HUG.out ?_ ?_ ?_ ?_ ?_);(exact rfl);(exact (elem_rng (HRg.out _ (HS23.out).old) HXi.out));(exact rfl);(exact info_gr);simp only [z0, z1, z2, z3]) | ((with_reducible refine wpList_store_ob 29 (.tmp 4) b3 (grCells x) (grCells grNil) 29 ?_ ?_ ?_ ?_ ?_ ?_ ?_);(exact rfl);(exact rfl);(exact (HS23.out).get 1 rfl);(exact info_gr);(exact rfl);(exact (oneCell_gr _));skip))
  have HS64 : Hid (Hp w [.ob (w.heap.size) 25 (tbCells (.slice a t.held.length cap) (.slice (some ⟨g, off, none⟩) t.wait.length cap2)), .ob b3 29 (grCells x)] (w22.setRow b3 (grCells x).toArray)):=(HS23.out).row 1 rfl (grCells x)
  clear HS23
  generalize (w22.setRow b3 (grCells x).toArray) = w63 at *
  refine bodyPost_ret (results_ob_tmp Try.results42 _ _ b3 (grCells x) 29 _ rfl ((HS64.out).get 1 rfl) HUG.out rfl info_gr) rfl ?_
  exact ⟨rfl, (HS64.out).old⟩
end Go.Proofs.Ytooaldglgkjjgaa
/- who waits for whom, as values: what the functions of chapter 9 answer, and what follows of it -/
namespace Go.Proofs.Ytooaldglgkjjgaa
set_option maxRecDepth 20000

def wtWith : List Int → Int → Bool → List Int
 | [], n, d=>if d = true then [] else [n]
 | x :: l, n, d=>(if (!d && decide (n ≤ x)) = true then [n] else []) ++ ((if x = n then [] else [x]) ++ wtWith l n (d || decide (n ≤ x)))
def wtR (l : List Int) (n : Int) : List Int:=wtWith l n false
def Asc (l : List Int) : Prop:=l.Pairwise (· < ·)
theorem wtWith_true (n : Int) : ∀ l : List Int, wtWith l n true = l.filter (fun x=>!decide (x = n))
 | []=>rfl
 | x :: l=>by
  show (if (!true && decide (n ≤ x)) = true then [n] else []) ++ ((if x = n then [] else [x]) ++ wtWith l n (true || decide (n ≤ x))) = _
  rw [Bool.true_or, wtWith_true n l, Bool.not_true, Bool.false_and, if_neg (by decide), List.nil_append, List.filter_cons]
  by_cases h : x = n
  ·rw [if_pos h, if_neg (by simp [h])];rfl
  ·rw [if_neg h, if_pos (by simp [h])];rfl
theorem wtWith_le {n x : Int} {l : List Int} (h : n ≤ x) : wtWith (x :: l) n false = n :: (x :: l).filter (fun y=>!decide (y = n)):=by
 show (if (!false && decide (n ≤ x)) = true then [n] else []) ++ ((if x = n then [] else [x]) ++ wtWith l n (false || decide (n ≤ x))) = _
 rw [decide_eq_true h, if_pos (by decide), Bool.or_true, wtWith_true, List.filter_cons]
 by_cases hx : x = n
 ·rw [if_pos hx, if_neg (by simp [hx])];rfl
 ·rw [if_neg hx, if_pos (by simp [hx])];rfl
theorem wtWith_gt {n x : Int} {l : List Int} (h : x < n) : wtWith (x :: l) n false = x :: wtWith l n false:=by
 show (if (!false && decide (n ≤ x)) = true then [n] else []) ++ ((if x = n then [] else [x]) ++ wtWith l n (false || decide (n ≤ x))) = _
 rw [decide_eq_false (by omega), if_neg (by decide), if_neg (by omega)];rfl
theorem mem_with {x n : Int} : ∀ {l : List Int}, x ∈ wtR l n ↔ x = n ∨ x ∈ l
 | []=>by show x ∈ [n] ↔ _;simp
 | y :: l=>by
  show x ∈ wtWith (y :: l) n false ↔ _
  rcases Int.lt_or_le y n with h | h
  ·rw [wtWith_gt h, List.mem_cons, List.mem_cons, show x ∈ wtWith l n false ↔ x = n ∨ x ∈ l from mem_with]
   constructor
   ·rintro (h | h | h)
    ·exact .inr (.inl h)
    ·exact .inl h
    ·exact .inr (.inr h)
   ·rintro (h | h | h)
    ·exact .inr (.inl h)
    ·exact .inl h
    ·exact .inr (.inr h)
  ·rw [wtWith_le h, List.mem_cons, List.mem_filter]
   by_cases hx : x = n
   ·simp [hx]
   ·simp [hx]
theorem asc_with {n : Int} : ∀ {l : List Int}, Asc l → Asc (wtR l n)
 | [], _=>by show Asc [n];exact List.pairwise_singleton _ _
 | y :: l, h=>by
  have h':=List.pairwise_cons.1 h
  show Asc (wtWith (y :: l) n false)
  rcases Int.lt_or_le y n with hy | hy
  ·rw [wtWith_gt hy]
   refine List.pairwise_cons.2 ⟨fun z hz=>?_, asc_with h'.2⟩
   rcases mem_with.1 hz with rfl | hz
   ·exact hy
   ·exact h'.1 z hz
  ·rw [wtWith_le hy]
   refine List.pairwise_cons.2 ⟨fun z hz=>?_, h.filter _⟩
   obtain ⟨h1, h2⟩:=List.mem_filter.1 hz
   have h3 : z ≠ n:=by simpa using h2
   rcases List.mem_cons.1 h1 with rfl | h1
   ·omega
   ·have:=h'.1 z h1;omega
theorem asc_ext : ∀ {a b : List Int}, Asc a → Asc b → (∀ x, x ∈ a ↔ x ∈ b) → a = b
 | [], [], _, _, _=>rfl
 | [], y :: b, _, _, h=>by have:=(h y).2 (List.mem_cons_self ..);cases this
 | x :: a, [], _, _, h=>by have:=(h x).1 (List.mem_cons_self ..);cases this
 | x :: a, y :: b, ha, hb, h=>by
  have ha':=List.pairwise_cons.1 ha
  have hb':=List.pairwise_cons.1 hb
  have e : x = y:=by
   rcases List.mem_cons.1 ((h x).1 (List.mem_cons_self ..)) with e | e
   ·exact e
   ·rcases List.mem_cons.1 ((h y).2 (List.mem_cons_self ..)) with e' | e'
    ·exact e'.symm
    ·have:=ha'.1 y e';have:=hb'.1 x e;omega
  subst e
  congr 1
  refine asc_ext ha'.2 hb'.2 fun z=>?_
  constructor
  ·intro hz
   rcases List.mem_cons.1 ((h z).1 (List.mem_cons_of_mem _ hz)) with e | e
   ·have:=ha'.1 z hz;omega
   ·exact e
  ·intro hz
   rcases List.mem_cons.1 ((h z).2 (List.mem_cons_of_mem _ hz)) with e | e
   ·have:=hb'.1 z hz;omega
   ·exact e

def forStep (g : Gr) (o : List Int) (x : Gr) : List Int:=if confB x g = true then wtR o x.tx else o
theorem mem_forFold (g : Gr) {b : Int} : ∀ (l : List Gr) (o : List Int), b ∈ l.foldl (forStep g) o ↔ b ∈ o ∨ ∃ x ∈ l, Conf x g ∧ x.tx = b
 | [], o=>by simp
 | x :: l, o=>by
  rw [List.foldl_cons, mem_forFold g l]
  unfold forStep
  by_cases h : Conf x g
  ·rw [if_pos (confB_iff.2 h), mem_with]
   constructor
   ·rintro ((e | e) | ⟨y, hy, e⟩)
    ·exact .inr ⟨x, List.mem_cons_self .., h, e.symm⟩
    ·exact .inl e
    ·exact .inr ⟨y, List.mem_cons_of_mem _ hy, e⟩
   ·rintro (e | ⟨y, hy, h1, e⟩)
    ·exact .inl (.inr e)
    ·rcases List.mem_cons.1 hy with rfl | hy
     ·exact .inl (.inl e.symm)
     ·exact .inr ⟨y, hy, h1, e⟩
  ·rw [if_neg (by rw [confB_iff];exact h)]
   constructor
   ·rintro (e | ⟨y, hy, e⟩)
    ·exact .inl e
    ·exact .inr ⟨y, List.mem_cons_of_mem _ hy, e⟩
   ·rintro (e | ⟨y, hy, h1, e⟩)
    ·exact .inl e
    ·rcases List.mem_cons.1 hy with rfl | hy
     ·exact absurd h1 h
     ·exact .inr ⟨y, hy, h1, e⟩
theorem asc_forFold (g : Gr) : ∀ (l : List Gr) {o : List Int}, Asc o → Asc (l.foldl (forStep g) o)
 | [], _, h=>h
 | x :: l, o, h=>by
  rw [List.foldl_cons]
  refine asc_forFold g l ?_
  unfold forStep
  split
  ·exact asc_with h
  ·exact h
noncomputable def forR (t : Tb) (tx : Int) : List Int :=
 if (waitR t tx).2 = true then (t.wait.takeWhile (fun x=>!decide (x.tx = tx))).foldl (forStep (waitR t tx).1) (t.held.foldl (forStep (waitR t tx).1) []) else []
def waitersL (l : List Gr) : List Int:=l.foldl (fun o x=>wtR o x.tx) []
noncomputable def waitersR (t : Tb) : List Int:=if tbOkB t = true then waitersL t.wait else []
noncomputable def edgesR (t : Tb) : List (Int × Int):=(waitersR t).flatMap fun a=>(forR t a).map fun b=>(a, b)
theorem asc_nil : Asc []:=List.Pairwise.nil
theorem asc_for (t : Tb) (tx : Int) : Asc (forR t tx):=by
 unfold forR
 split
 ·exact asc_forFold _ _ (asc_forFold _ _ asc_nil)
 ·exact asc_nil
theorem mem_waitersFold {b : Int} : ∀ (l : List Gr) (o : List Int), b ∈ l.foldl (fun o x=>wtR o x.tx) o ↔ b ∈ o ∨ ∃ x ∈ l, x.tx = b
 | [], o=>by simp
 | x :: l, o=>by
  rw [List.foldl_cons, mem_waitersFold l, mem_with]
  constructor
  ·rintro ((e | e) | ⟨y, hy, e⟩)
   ·exact .inr ⟨x, List.mem_cons_self .., e.symm⟩
   ·exact .inl e
   ·exact .inr ⟨y, List.mem_cons_of_mem _ hy, e⟩
  ·rintro (e | ⟨y, hy, e⟩)
   ·exact .inl (.inr e)
   ·rcases List.mem_cons.1 hy with rfl | hy
    ·exact .inl (.inl e.symm)
    ·exact .inr ⟨y, hy, e⟩
theorem asc_waitersFold : ∀ (l : List Gr) {o : List Int}, Asc o → Asc (l.foldl (fun o x=>wtR o x.tx) o)
 | [], _, h=>h
 | _ :: l, _, h=>by rw [List.foldl_cons];exact asc_waitersFold l (asc_with h)
theorem mem_waiters {t : Tb} (h : TbOk t) {b : Int} : b ∈ waitersR t ↔ ∃ x ∈ t.wait, x.tx = b:=by
 unfold waitersR waitersL
 rw [if_pos (tbOkB_iff.2 h), mem_waitersFold]
 simp
theorem asc_waiters (t : Tb) : Asc (waitersR t):=by
 unfold waitersR waitersL
 split
 ·exact asc_waitersFold _ asc_nil
 ·exact asc_nil

/-- an edge: one who waits, and one that it waits for -/
def Edge (t : Tb) (a b : Int) : Prop:=∃ p g q, t.wait = p ++ g :: q ∧ g.tx = a ∧ ((∃ x ∈ t.held, Conf x g ∧ x.tx = b) ∨ ∃ x ∈ p, Conf x g ∧ x.tx = b)
theorem split_tx {l : List Gr} (hl : l.Pairwise (fun a b=>a.tx ≠ b.tx)) {p q : List Gr} {g : Gr} (h : l = p ++ g :: q) : l.takeWhile (fun x=>!decide (x.tx = g.tx)) = p ∧ wfind l g.tx = some g:=by
 subst h
 obtain ⟨_, _, h3⟩:=List.pairwise_append.1 hl
 have hp : ∀ x ∈ p, x.tx ≠ g.tx:=fun x hx=>h3 x hx g (List.mem_cons_self ..)
 constructor
 ·rw [List.takeWhile_append_of_pos (fun x hx=>by simpa using hp x hx), List.takeWhile_cons, if_neg (by simp), List.append_nil]
 ·exact wfind_mem hl (List.mem_append_right _ (List.mem_cons_self ..))
theorem mem_for {t : Tb} (h : TbOk t) {a b : Int} : b ∈ forR t a ↔ Edge t a b:=by
 have hone:=h.tin.wait.one
 unfold forR
 rw [waitR_of h]
 cases hw : wfind t.wait a with
 | none =>
  simp only [Option.isSome_none, Bool.false_eq_true, if_false]
  constructor
  ·intro h;cases h
  ·rintro ⟨p, g, q, hs, rfl, _⟩
   have:=(split_tx hone hs).2
   rw [hw] at this;cases this
 | some g =>
  simp only [Option.isSome_some, if_true, Option.getD_some]
  obtain ⟨hg, rfl⟩:=wfind_some hw
  obtain ⟨p, q, hs⟩:=List.append_of_mem hg
  rw [(split_tx hone hs).1, mem_forFold, mem_forFold]
  constructor
  ·rintro ((h | h) | h)
   ·cases h
   ·exact ⟨p, g, q, hs, rfl, .inl h⟩
   ·exact ⟨p, g, q, hs, rfl, .inr h⟩
  ·rintro ⟨p', g', q', hs', hg', h⟩
   have e1 : g' = g:=by
    have:=(split_tx hone hs').2
    rw [hg', hw] at this
    exact (Option.some.inj this).symm
   subst e1
   have e2 : p' = p:=by rw [← (split_tx hone hs').1, (split_tx hone hs).1]
   subst e2
   rcases h with h | h
   ·exact .inl (.inr h)
   ·exact .inr h
theorem edge_waits {t : Tb} {a b : Int} (h : Edge t a b) : ∃ x ∈ t.wait, x.tx = a:=by
 obtain ⟨p, g, q, hs, hg, _⟩:=h
 exact ⟨g, by rw [hs];exact List.mem_append_right _ (List.mem_cons_self ..), hg⟩
theorem edge_step {H A r : List Gr} {g : Gr} {a b : Int} (h : Edge ⟨(stepS ⟨H, A⟩ g).held, (stepS ⟨H, A⟩ g).wait ++ r⟩ a b) : Edge ⟨H, A ++ g :: r⟩ a b:=by
 by_cases ha : Able H A g
 ·rw [stepS_pos (s:=⟨H, A⟩) ha] at h
  obtain ⟨p, w, q, hs, hw, h⟩:=h
  simp only at hs h
  rcases List.append_eq_append_iff.1 hs with ⟨s, hp, hr⟩ | ⟨s, hA, hr⟩
  ·-- w stands behind A
   refine ⟨A ++ g :: s, w, q, by show A ++ g :: r = _;rw [hr, List.append_assoc];rfl, hw, ?_⟩
   rcases h with ⟨x, hx, hc⟩ | ⟨x, hx, hc⟩
   ·rcases mem_hold hx with rfl | hx
    ·exact .inr ⟨_, List.mem_append_right _ (List.mem_cons_self ..), hc⟩
    ·exact .inl ⟨x, hx, hc⟩
   ·rw [hp] at hx
    rcases List.mem_append.1 hx with hx | hx
    ·exact .inr ⟨x, List.mem_append_left _ hx, hc⟩
    ·exact .inr ⟨x, List.mem_append_right _ (List.mem_cons_of_mem _ hx), hc⟩
  ·cases s with
   | nil =>
    simp only [List.append_nil, List.nil_append] at hA hr
    refine ⟨A ++ [g], w, q, by show A ++ g :: r = _;rw [← hr, List.append_assoc];rfl, hw, ?_⟩
    rcases h with ⟨x, hx, hc⟩ | ⟨x, hx, hc⟩
    ·rcases mem_hold hx with rfl | hx
     ·exact .inr ⟨_, List.mem_append_right _ (List.mem_cons_self ..), hc⟩
     ·exact .inl ⟨x, hx, hc⟩
    ·rw [hA];exact .inr ⟨x, List.mem_append_left _ hx, hc⟩
   | cons z s =>
    obtain ⟨rfl, rfl⟩ : w = z ∧ q = s ++ r:=by
     rw [List.cons_append] at hr
     exact ⟨(List.cons.inj hr).1, (List.cons.inj hr).2⟩
    refine ⟨p, w, s ++ g :: r, by show A ++ g :: r = _;rw [hA, List.append_assoc];rfl, hw, ?_⟩
    rcases h with ⟨x, hx, hc⟩ | ⟨x, hx, hc⟩
    ·rcases mem_hold hx with rfl | hx
     ·exact absurd hc.1.symm (ha.2 w (by rw [hA];exact List.mem_append_right _ (List.mem_cons_self ..)))
     ·exact .inl ⟨x, hx, hc⟩
    ·exact .inr ⟨x, hx, hc⟩
 ·rw [stepS_neg (s:=⟨H, A⟩) ha] at h
  simpa using h
theorem edge_fold {a b : Int} : ∀ (r : List Gr) (s : Tb), Edge (r.foldl stepS s) a b → Edge ⟨s.held, s.wait ++ r⟩ a b
 | [], s, h=>by rw [List.append_nil];exact h
 | g :: r, s, h=>by
  rw [List.foldl_cons] at h
  exact edge_step (edge_fold r _ h)
theorem edge_settle {t : Tb} {a b : Int} (h : Edge (settleR t) a b) : Edge t a b:=edge_fold t.wait ⟨t.held, []⟩ h
theorem edge_filter {h l : List Gr} (p q : Gr → Bool) {a b : Int} (k : Edge ⟨h.filter p, l.filter q⟩ a b) : Edge ⟨h, l⟩ a b:=by
 obtain ⟨u, g, v, hs, hg, k⟩:=k
 obtain ⟨l1, l2, rfl, h1, h2⟩:=List.filter_eq_append_iff.1 hs
 obtain ⟨l3, l4, rfl, h3, h4, h5⟩:=List.filter_eq_cons_iff.1 h2
 refine ⟨l1 ++ l3, g, l4, by show l1 ++ (l3 ++ g :: l4) = _;rw [List.append_assoc], hg, ?_⟩
 rcases k with ⟨x, hx, hc⟩ | ⟨x, hx, hc⟩
 ·exact .inl ⟨x, (List.mem_filter.1 hx).1, hc⟩
 ·rw [← h1] at hx
  exact .inr ⟨x, List.mem_append_left _ (List.mem_filter.1 hx).1, hc⟩
theorem edge_filter_h {h l : List Gr} (p : Gr → Bool) {a b : Int} (k : Edge ⟨h.filter p, l⟩ a b) : Edge ⟨h, l⟩ a b:=by
 have:=edge_filter (h:=h) (l:=l) p (fun _=>true) (a:=a) (b:=b)
 rw [filter_all] at this;exact this k
theorem edge_drop {t : Tb} {tx p s a b : Int} (h : Edge (dropR t tx p s) a b) : Edge t a b:=by
 unfold dropR at h;split at h
 ·exact edge_filter_h _ (edge_settle h)
 ·exact h
end Go.Proofs.Ytooaldglgkjjgaa
/- sorted and without repetitions: what a list of numbers is then; for whom one waits, sorted -/
namespace Go.Proofs.Ytooaldglgkjjgaa
set_option maxRecDepth 20000

theorem le_get {l : List Int} (h : l.Pairwise (· ≤ ·)) {i j : Nat} (hij : i ≤ j) (hj : j < l.length) : l[i]'(by omega) ≤ l[j]:=by
  rcases Nat.lt_or_eq_of_le hij with hlt | rfl
  · exact List.pairwise_iff_getElem.1 h i j (by omega) hj hlt
  · exact Int.le_refl _
theorem arr_get {l : List Int} {j : Nat} (hj : j < l.length) : l.toArray[j]! = l[j]:=by
  rw [getElem!_pos l.toArray j (by simpa using hj), List.getElem_toArray]
theorem compact_asc {l : List Int} (h : l.Pairwise (· ≤ ·)) : Asc (Lib.compact l):=by
  unfold Lib.compact Lib.compactUpTo Asc
  rw [List.pairwise_map]
  have hr : ((List.range l.length).filter (Lib.keeps l.toArray)).Pairwise (· < ·):=List.Pairwise.filter _ List.pairwise_lt_range
  refine hr.imp_of_mem fun {i j} hi hj hij=>?_
  obtain ⟨hi, _⟩:=List.mem_filter.1 hi
  obtain ⟨hj, kj⟩:=List.mem_filter.1 hj
  rw [List.mem_range] at hi hj
  unfold Lib.keeps at kj
  rw [decide_eq_true_eq] at kj
  rw [arr_get hi, arr_get hj]
  rw [arr_get hj, arr_get (show j - 1 < l.length by omega)] at kj
  have h1:=le_get h (show i ≤ j - 1 by omega) (by omega)
  have h2:=le_get h (show j - 1 ≤ j by omega) hj
  rcases kj with e | e
  · omega
  · omega
theorem compact_mem {l : List Int} {x : Int} : x ∈ Lib.compact l ↔ x ∈ l:=by
  unfold Lib.compact Lib.compactUpTo
  rw [List.mem_map]
  constructor
  · rintro ⟨j, hj, rfl⟩
    have:=List.mem_range.1 (List.mem_filter.1 hj).1
    rw [arr_get this];exact List.getElem_mem this
  · intro hx
    obtain ⟨j, hj, rfl⟩:=List.getElem_of_mem hx
    have hall : ∀ j (hj : j < l.length), ∃ i, i ∈ (List.range l.length).filter (Lib.keeps l.toArray) ∧ l.toArray[i]! = l[j]:=by
      intro j
      induction j with
      | zero =>
        intro hj
        refine ⟨0, List.mem_filter.2 ⟨List.mem_range.2 hj, by unfold Lib.keeps;rw [decide_eq_true_eq];exact .inl rfl⟩, arr_get hj⟩
      | succ j ih =>
        intro hj
        by_cases e : l[j + 1] = l[j]
        · obtain ⟨i, hi, he⟩:=ih (by omega)
          exact ⟨i, hi, by rw [he, e]⟩
        · refine ⟨j + 1, List.mem_filter.2 ⟨List.mem_range.2 hj, ?_⟩, arr_get hj⟩
          unfold Lib.keeps
          rw [decide_eq_true_eq]
          right
          rw [arr_get hj, arr_get (show j + 1 - 1 < l.length by omega)]
          exact e
    exact hall j hj
def sortI (l : List Int) : List Int:=l.mergeSort fun x y=>decide (x ≤ y)
theorem sortI_mem {l : List Int} {x : Int} : x ∈ sortI l ↔ x ∈ l:=(List.mergeSort_perm l _).mem_iff
theorem sortI_len (l : List Int) : (sortI l).length = l.length:=(List.mergeSort_perm l _).length_eq
theorem sortI_asc (l : List Int) : (sortI l).Pairwise (· ≤ ·):=by
  have:=List.pairwise_mergeSort (le:=fun (x y : Int)=>decide (x ≤ y)) (fun a b c h1 h2=>by simp only [decide_eq_true_eq] at *;omega) (fun a b=>by simp only [Bool.or_eq_true, decide_eq_true_eq];omega) l
  refine this.imp fun {a b} h=>?_
  simpa using h
/-- sorted, each once -/
def onceI (l : List Int) : List Int:=Lib.compact (sortI l)
theorem onceI_asc (l : List Int) : Asc (onceI l):=compact_asc (sortI_asc l)
theorem onceI_mem {l : List Int} {x : Int} : x ∈ onceI l ↔ x ∈ l:=by unfold onceI;rw [compact_mem, sortI_mem]
theorem onceI_eq {l m : List Int} (hm : Asc m) (h : ∀ x, x ∈ m ↔ x ∈ l) : onceI l = m:=asc_ext (onceI_asc l) hm fun x=>by rw [onceI_mem, h]
/-- the numbers of those that stand in one's way -/
def inWay (g : Gr) (l : List Gr) : List Int:=(l.filter fun x=>confB x g).map Gr.tx
theorem mem_inWay {g : Gr} {l : List Gr} {b : Int} : b ∈ inWay g l ↔ ∃ x ∈ l, Conf x g ∧ x.tx = b:=by
  unfold inWay
  rw [List.mem_map]
  constructor
  · rintro ⟨x, hx, rfl⟩
    obtain ⟨h1, h2⟩:=List.mem_filter.1 hx
    exact ⟨x, h1, confB_iff.1 h2, rfl⟩
  · rintro ⟨x, hx, h, rfl⟩
    exact ⟨x, List.mem_filter.2 ⟨hx, confB_iff.2 h⟩, rfl⟩
theorem inWay_append (g : Gr) (l m : List Gr) : inWay g (l ++ m) = inWay g l ++ inWay g m:=by unfold inWay;rw [List.filter_append, List.map_append]
theorem inWay_len (g : Gr) (l : List Gr) : (inWay g l).length ≤ l.length:=by unfold inWay;rw [List.length_map];exact List.length_filter_le ..
theorem inWay_next {g x : Gr} {l : List Gr} {i : Nat} (hx : l[i]? = some x) : inWay g (l.take (i + 1)) = inWay g (l.take i) ++ if confB x g = true then [x.tx] else []:=by
  rw [List.take_add_one, hx, inWay_append]
  congr 1
  show inWay g [x] = _
  unfold inWay
  by_cases h : confB x g = true
  · rw [if_pos h, List.filter_cons, if_pos (by simpa using h)];rfl
  · rw [if_neg h, List.filter_cons, if_neg (by simpa using h)];rfl
end Go.Proofs.Ytooaldglgkjjgaa
/- faults and devices as values, and what the functions of chapter 4 answer -/
namespace Go.Proofs.Ytooaldglgkjjgaa
open Go.RowKit
set_option maxRecDepth 20000

structure Flt where
  kind : Int
  at_ : Int
  page : Int
  target : Int
  byte : Int
  mask : Int
structure Dv where
  pages : List ByteArray
  writes : Int
  unread : List Int
  dead : Bool
  faults : List Flt
def fltCells (f : Flt) : List Value:=[.int .i64 f.kind, .int .i64 f.at_, .int .i64 f.page, .int .i64 f.target, .int .i64 f.byte, .int .u8 f.mask]
def intRow (l : List Int) : List Value:=l.map (.int .i64)
def strRow (l : List ByteArray) : List Value:=l.map .string
def fltRow (l : List Flt) : List Value:=l.flatMap fltCells
def dvCells (p : Value) (d : Dv) (u f : Value) : List Value:=[p, .int .i64 d.writes, u, .bool d.dead, f]
/-- a device's three slices read -/
structure DvRd (p u f : Value) (d : Dv) (R : List Rng) : Prop where
  pages : SlRd p 1 d.pages.length (strRow d.pages) R
  unread : SlRd u 1 d.unread.length (intRow d.unread) R
  faults : SlRd f 6 d.faults.length (fltRow d.faults) R
theorem DvRd.mono {p u f : Value} {d : Dv} {R S : List Rng} (h : DvRd p u f d R) (hs : ∀ r ∈ R, r ∈ S) : DvRd p u f d S:=⟨h.pages.mono hs, h.unread.mono hs, h.faults.mono hs⟩
def dvNil : Dv:=⟨[], 0, [], false, []⟩
def withoutR (l : List Int) (n : Int) : List Int:=l.filter fun x=>!decide (x = n)
/-- an ascending list with a number -/
def withR (n : Int) : List Int → List Int
  | []=>[n]
  | x :: l=>if n ≤ x then n :: withoutR (x :: l) n else x :: withR n l
/-- the numbers of a fault are numbers -/
structure GoodFlt (f : Flt) : Prop where
  kind : (Lit.int .i64 f.kind).wf = true
  at_ : (Lit.int .i64 f.at_).wf = true
  page : (Lit.int .i64 f.page).wf = true
  target : (Lit.int .i64 f.target).wf = true
  byte : (Lit.int .i64 f.byte).wf = true
  mask : (Lit.int .u8 f.mask).wf = true
def nilS : Value:=.slice none 0 0
end Go.Proofs.Ytooaldglgkjjgaa
/- the walk of the reference's 'has' -/
namespace Go.Proofs.Ytooaldglgkjjgaa
open Go.RowKit
set_option maxRecDepth 20000

theorem intRow_at (l : List Int) (k : Nat) (h : k < l.length) : (intRow l)[k]? = some (.int .i64 l[k]):=by
  unfold intRow
  rw [List.getElem?_map, List.getElem?_eq_getElem h]
  rfl
end Go.Proofs.Ytooaldglgkjjgaa
/- the walks of the reference's lists of numbers -/
namespace Go.Proofs.Ytooaldglgkjjgaa
open Go.RowKit
set_option maxRecDepth 20000

theorem one_i (y : Int) : ∀ u ∈ ([.int .i64 y] : List Value), u.oneCell' = true:=by
  intro u hu
  obtain rfl:=List.mem_singleton.1 hu
  rfl
end Go.Proofs.Ytooaldglgkjjgaa
/- the walk of the reference's 'with' -/
namespace Go.Proofs.Ytooaldglgkjjgaa
open Go.RowKit
set_option maxRecDepth 20000

theorem withR_low {n : Int} : ∀ {l : List Int}, (∀ x ∈ l, x < n) → withR n l = l ++ [n]
  | [], _=>rfl
  | x :: l, h=>by
    have hx:=h x (List.mem_cons_self ..)
    unfold withR
    rw [if_neg (by omega), withR_low (fun y hy=>h y (List.mem_cons_of_mem _ hy))]
    rfl
theorem without_snoc (l : List Int) (n y : Int) : withoutR (l ++ [y]) n = withoutR l n ++ (if y = n then [] else [y]):=by
  unfold withoutR
  rw [List.filter_append]
  congr 1
  by_cases e : y = n <;> simp [e]
theorem withR_here {n y : Int} (hy : n ≤ y) : ∀ {l : List Int}, (∀ x ∈ l, x < n) → withR n (l ++ [y]) = (l ++ [n]) ++ (if y = n then [] else [y])
  | [], _=>by
    show withR n [y] = _
    unfold withR
    rw [if_pos hy]
    by_cases e : y = n <;> simp [withoutR, e]
  | x :: l, h=>by
    have hx:=h x (List.mem_cons_self ..)
    show withR n (x :: (l ++ [y])) = _
    unfold withR
    rw [if_neg (by omega), withR_here hy (fun z hz=>h z (List.mem_cons_of_mem _ hz))]
    rfl
theorem withR_past {n y : Int} : ∀ {l : List Int}, (∃ x ∈ l, n ≤ x) → withR n (l ++ [y]) = withR n l ++ (if y = n then [] else [y])
  | [], h=>by obtain ⟨x, hx, _⟩:=h;cases hx
  | x :: l, h=>by
    show withR n (x :: (l ++ [y])) = _
    unfold withR
    by_cases hx : n ≤ x
    · rw [if_pos hx, if_pos hx, show x :: (l ++ [y]) = (x :: l) ++ [y] from rfl, without_snoc]
      rfl
    · rw [if_neg hx, if_neg hx, withR_past (by
        obtain ⟨z, hz, hn⟩:=h
        rcases List.mem_cons.1 hz with rfl | hz
        · exact absurd hn hx
        · exact ⟨z, hz, hn⟩)]
      rfl
/-- how far the list is: dn, whether the number is in it -/
def WithSt (n : Int) (dn : Bool) (l out : List Int) : Prop:=if dn = true then out = withR n l ∧ ∃ x ∈ l, n ≤ x else out = l ∧ ∀ x ∈ l, x < n
theorem WithSt.end {n : Int} {l out : List Int} : ∀ {dn : Bool}, WithSt n dn l out → withR n l = if dn = true then out else out ++ [n]
  | true, h=>by rw [if_pos rfl];exact h.1.symm
  | false, h=>by
    rw [if_neg (by decide), h.1]
    exact withR_low h.2
theorem WithSt.past {n y : Int} {l out : List Int} (h : WithSt n true l out) : WithSt n true (l ++ [y]) (out ++ (if y = n then [] else [y])) :=
  ⟨by rw [withR_past h.2, h.1], by
    obtain ⟨x, hx, hn⟩:=h.2
    exact ⟨x, List.mem_append_left _ hx, hn⟩⟩
theorem WithSt.here {n y : Int} {l out : List Int} (h : WithSt n false l out) (hy : n ≤ y) : WithSt n true (l ++ [y]) ((out ++ [n]) ++ (if y = n then [] else [y])) :=
  ⟨by rw [withR_here hy h.2, h.1], y, by simp, hy⟩
theorem WithSt.low {n y : Int} {l out : List Int} (h : WithSt n false l out) (hy : y < n) : WithSt n false (l ++ [y]) (out ++ [y]) :=
  ⟨by rw [h.1], fun x hx=>by
    rcases List.mem_append.1 hx with hx | hx
    · exact h.2 x hx
    · rw [List.mem_singleton.1 hx];exact hy⟩
theorem own_snoc {w W : World} {v : Value} {out : List Int} {y : Int} (h : Hp w [.sl v 3 1 (out.length + 1) (intRow out ++ [.int .i64 y])] W) : Hp w [.sl v 3 1 (out ++ [y]).length (intRow (out ++ [y]))] W:=by
  rw [List.length_append]
  have e : intRow (out ++ [y]) = intRow out ++ [.int .i64 y]:=by unfold intRow;rw [List.map_append];rfl
  rw [e]
  exact h
end Go.Proofs.Ytooaldglgkjjgaa
/- cycles of those who wait, as values: what Cycle and Would answer, and when there is none -/
namespace Go.Proofs.Ytooaldglgkjjgaa
set_option maxRecDepth 20000

def firstR (f : Int → List Int) : List Int → List Int
 | []=>[]
 | x :: l=>if f x = [] then firstR f l else f x
/-- a way, extended by k more: the first of those whose last one waits for the first one -/
def closedF (f : Int → List Int) : Nat → List Int → List Int
 | 0, way=>if way.headD 0 ∈ f (way.getLastD 0) then way else []
 | k + 1, way=>firstR (fun x=>if x ∈ way then [] else closedF f k (way ++ [x])) (f (way.getLastD 0))
def cycGo (f : Int → List Int) (tx : Int) : Nat → Nat → List Int
 | _, 0=>[]
 | n, k + 1=>if closedF f n [tx] = [] then cycGo f tx (n + 1) k else closedF f n [tx]
noncomputable def cycR (t : Tb) (tx : Int) : List Int:=cycGo (forR t) tx 0 (waitersR t).length
noncomputable def wouldR (t : Tb) (g : Gr) : List Int × Int:=if (requestR t g).2.2 = 0 then (cycR (requestR t g).1 g.tx, 0) else ([], (requestR t g).2.2)

theorem firstR_ne {f : Int → List Int} : ∀ {l : List Int}, firstR f l ≠ [] ↔ ∃ x ∈ l, f x ≠ []
 | []=>by unfold firstR;simp
 | x :: l=>by
  unfold firstR
  by_cases h : f x = []
  ·rw [if_pos h, firstR_ne]
   constructor
   ·rintro ⟨y, hy, h1⟩;exact ⟨y, List.mem_cons_of_mem _ hy, h1⟩
   ·rintro ⟨y, hy, h1⟩
    rcases List.mem_cons.1 hy with rfl | hy
    ·exact absurd h h1
    ·exact ⟨y, hy, h1⟩
  ·rw [if_neg h]
   exact ⟨fun _=>⟨x, List.mem_cons_self .., h⟩, fun _=>h⟩
/-- a way and what closes it -/
def Ext (f : Int → List Int) : List Int → List Int → Prop
 | way, []=>way.headD 0 ∈ f (way.getLastD 0)
 | way, x :: s=>x ∈ f (way.getLastD 0) ∧ x ∉ way ∧ Ext f (way ++ [x]) s
theorem closedF_ne {f : Int → List Int} : ∀ {k : Nat} {way : List Int}, way ≠ [] → (closedF f k way ≠ [] ↔ ∃ s, s.length = k ∧ Ext f way s)
 | 0, way, hw=>by
  unfold closedF
  constructor
  ·intro h
   refine ⟨[], rfl, ?_⟩
   by_cases hc : way.headD 0 ∈ f (way.getLastD 0)
   ·exact hc
   ·rw [if_neg hc] at h;exact absurd rfl h
  ·rintro ⟨s, hs, h⟩
   obtain rfl:=List.eq_nil_of_length_eq_zero hs
   rw [if_pos (show way.headD 0 ∈ f (way.getLastD 0) from h)];exact hw
 | k + 1, way, hw=>by
  unfold closedF
  rw [firstR_ne]
  constructor
  ·rintro ⟨x, hx, h⟩
   by_cases hm : x ∈ way
   ·rw [if_pos hm] at h;exact absurd rfl h
   ·rw [if_neg hm] at h
    obtain ⟨s, hs, he⟩:=(closedF_ne (by simp)).1 h
    exact ⟨x :: s, by rw [List.length_cons, hs], hx, hm, he⟩
  ·rintro ⟨s, hs, h⟩
   cases s with
   | nil=>cases hs
   | cons x s =>
    obtain ⟨hx, hm, he⟩:=h
    refine ⟨x, hx, ?_⟩
    rw [if_neg hm]
    exact (closedF_ne (by simp)).2 ⟨s, by simpa using hs, he⟩
theorem cycGo_ne {f : Int → List Int} {tx : Int} : ∀ {k n : Nat}, cycGo f tx n k ≠ [] ↔ ∃ j, n ≤ j ∧ j < n + k ∧ closedF f j [tx] ≠ []
 | 0, n=>by
  unfold cycGo
  constructor
  ·intro h;exact absurd rfl h
  ·rintro ⟨j, h1, h2, _⟩;omega
 | k + 1, n=>by
  unfold cycGo
  by_cases h : closedF f n [tx] = []
  ·rw [if_pos h, cycGo_ne]
   constructor
   ·rintro ⟨j, h1, h2, h3⟩;exact ⟨j, by omega, by omega, h3⟩
   ·rintro ⟨j, h1, h2, h3⟩
    by_cases hj : j = n
    ·subst hj;exact absurd h h3
    ·exact ⟨j, by omega, by omega, h3⟩
  ·rw [if_neg h]
   exact ⟨fun _=>⟨n, by omega, by omega, h⟩, fun _=>h⟩

def Wk (E : Int → Int → Prop) : Int → List Int → Int → Prop
 | a, [], b=>E a b
 | a, x :: s, b=>E a x ∧ Wk E x s b
def Acyc (E : Int → Int → Prop) : Prop:=∀ a s, ¬ Wk E a s a
theorem Wk.cut {E : Int → Int → Prop} {c b : Int} {q : List Int} : ∀ {p : List Int} {a : Int}, Wk E a (p ++ c :: q) b → Wk E a p c ∧ Wk E c q b
 | [], _, h=>⟨h.1, h.2⟩
 | _ :: _, _, h=>⟨⟨h.1, (Wk.cut h.2).1⟩, (Wk.cut h.2).2⟩
theorem Wk.mono {E F : Int → Int → Prop} : ∀ {s : List Int} {a b : Int}, (∀ x y, x ∈ a :: s → (y ∈ s ∨ y = b) → E x y → F x y) → Wk E a s b → Wk F a s b
 | [], _, _, h, k=>h _ _ (List.mem_cons_self ..) (.inr rfl) k
 | x :: _, a, _, h, k=>⟨h a x (List.mem_cons_self ..) (.inl (List.mem_cons_self ..)) k.1, Wk.mono (fun u v hu hv=>h u v (List.mem_cons_of_mem _ hu) (hv.imp (List.mem_cons_of_mem _) id)) k.2⟩
theorem Wk.out {E : Int → Int → Prop} : ∀ {s : List Int} {a b : Int}, Wk E a s b → ∀ x ∈ a :: s, ∃ y, E x y
 | [], a, b, h, x, hx=>by
  obtain rfl : x = a:=by simpa using hx
  exact ⟨b, h⟩
 | z :: s, a, b, h, x, hx=>by
  rcases List.mem_cons.1 hx with rfl | hx
  ·exact ⟨z, h.1⟩
  ·exact Wk.out h.2 x hx
/-- a walk can be made simple -/
theorem Wk.simple {E : Int → Int → Prop} : ∀ {s : List Int} {a b : Int}, Wk E a s b → ∃ s', Wk E a s' b ∧ (a :: s').Nodup
 | [], a, b, h=>⟨[], h, by simp⟩
 | x :: s, a, b, h=>by
  obtain ⟨s1, h1, h2⟩:=Wk.simple h.2
  by_cases ha : a ∈ x :: s1
  ·obtain ⟨p, q, hs⟩:=List.append_of_mem ha
   have hq : (a :: q).Nodup:=by rw [hs] at h2;exact (List.nodup_append.1 h2).2.1
   refine ⟨q, ?_, hq⟩
   cases p with
   | nil =>
    obtain ⟨rfl, rfl⟩ : x = a ∧ s1 = q:=⟨(List.cons.inj hs).1, (List.cons.inj hs).2⟩
    exact h1
   | cons z p =>
    have e : s1 = p ++ a :: q:=(List.cons.inj hs).2
    rw [e] at h1
    exact h1.cut.2
  ·exact ⟨x :: s1, ⟨h.1, h1⟩, List.nodup_cons.2 ⟨ha, h2⟩⟩
theorem getLastD_snoc (l : List Int) (x d : Int) : (l ++ [x]).getLastD d = x:=by simp [List.getLastD_eq_getLast?]
theorem headD_snoc {l : List Int} (h : l ≠ []) (x d : Int) : (l ++ [x]).headD d = l.headD d:=by
 cases l with
 | nil=>exact absurd rfl h
 | cons y l=>rfl
theorem ext_of {f : Int → List Int} {E : Int → Int → Prop} (hE : ∀ a b, E a b → b ∈ f a) : ∀ {s way : List Int}, way ≠ [] → (way ++ s).Nodup → Wk E (way.getLastD 0) s (way.headD 0) → Ext f way s
 | [], way, _, _, h=>hE _ _ h
 | x :: s, way, hw, hn, h=>by
  refine ⟨hE _ _ h.1, fun hx=>?_, ext_of hE (by simp) (by rw [List.append_assoc];exact hn) ?_⟩
  ·exact (List.nodup_append.1 hn).2.2 x hx x (List.mem_cons_self ..) rfl
  ·rw [getLastD_snoc, headD_snoc hw];exact h.2
theorem of_ext {f : Int → List Int} {E : Int → Int → Prop} (hE : ∀ a b, b ∈ f a → E a b) : ∀ {s way : List Int}, way ≠ [] → Ext f way s → Wk E (way.getLastD 0) s (way.headD 0)
 | [], way, _, h=>hE _ _ h
 | x :: s, way, hw, h=>by
  have:=of_ext hE (by simp) h.2.2
  rw [getLastD_snoc, headD_snoc hw] at this
  exact ⟨hE _ _ h.1, this⟩
theorem nodup_len : ∀ {l m : List Int}, l.Nodup → (∀ x ∈ l, x ∈ m) → l.length ≤ m.length
 | [], _, _, _=>Nat.zero_le _
 | x :: l, m, h, hs=>by
  obtain ⟨hx, hl⟩:=List.nodup_cons.1 h
  have hm:=hs x (List.mem_cons_self ..)
  have:=nodup_len (m:=m.erase x) hl fun y hy=>(List.mem_erase_of_ne (fun e=>hx (by rw [← e];exact hy))).2 (hs y (List.mem_cons_of_mem _ hy))
  rw [List.length_erase_of_mem hm] at this
  have : 0 < m.length:=List.length_pos_of_mem hm
  rw [List.length_cons];omega
theorem cycGo_walk {f : Int → List Int} {tx : Int} {W : List Int} (hW : ∀ a, f a ≠ [] → a ∈ W) : cycGo f tx 0 W.length ≠ [] ↔ ∃ s, Wk (fun a b=>b ∈ f a) tx s tx:=by
 rw [cycGo_ne]
 constructor
 ·rintro ⟨j, _, _, h⟩
  obtain ⟨s, _, he⟩:=(closedF_ne (by simp)).1 h
  exact ⟨s, of_ext (E:=fun a b=>b ∈ f a) (fun _ _ h=>h) (by simp) he⟩
 ·rintro ⟨s, h⟩
  obtain ⟨s', h1, h2⟩:=h.simple
  have hl : (tx :: s').length ≤ W.length:=nodup_len h2 fun x hx=>hW x (by
   obtain ⟨y, hy⟩:=h1.out x hx
   intro e;rw [e] at hy;cases hy)
  rw [List.length_cons] at hl
  exact ⟨s'.length, by omega, by omega, (closedF_ne (by simp)).2 ⟨s', rfl, ext_of (E:=fun a b=>b ∈ f a) (way:=[tx]) (fun _ _ h=>h) (by simp) h2 h1⟩⟩
theorem acyc_sub {E F : Int → Int → Prop} (h : Acyc E) (hs : ∀ a b, F a b → E a b) : Acyc F:=fun a s k=>h a s (k.mono fun x y _ _=>hs x y)
theorem acyc_nil : Acyc (Edge tbNil):=fun a s k=>by
 obtain ⟨b, hb⟩:=k.out a (List.mem_cons_self ..)
 obtain ⟨x, hx, _⟩:=edge_waits hb
 cases hx
theorem acyc_drop {t : Tb} (ha : Acyc (Edge t)) (tx p s : Int) : Acyc (Edge (dropR t tx p s)):=acyc_sub ha fun _ _=>edge_drop
end Go.Proofs.Ytooaldglgkjjgaa
/- the reference's list of numbers of chapter 9: with; what a call hands back -/
namespace Go.Proofs.Ytooaldglgkjjgaa
open Go.RowKit
open Go.Act renaming put → z0
open List renaming setIfInBounds_toArray → z1, set_cons_zero → z2, set_cons_succ → z3
set_option maxRecDepth 20000

def IntRd (v : Value) (l : List Int) (R : List Rng) : Prop:=SlRd v 1 l.length (intRow l) R
/-- a list of numbers, handed back -/
def IntsPost (w : World) (l : List Int) (e : Ending) (w' : World) : Prop:=∃ v R, e = .returned v ∧ IntRd v l R ∧ RdIn w' R ∧ (∀ r ∈ R, w.heap.size ≤ r.1) ∧ Below w.heap.size w w'
theorem int_hand {w W : World} {v : Value} {l : List Int} (h : W.ownsRow w.heap.size 3 1 v l.length (intRow l)) (hb : Below w.heap.size w W) : IntsPost w l (.returned v) W:=by
 obtain ⟨R, h1, h2, h3⟩:=own_reads h
 exact ⟨v, R, rfl, h1, h2, fun r hr=>(h3 r hr).1, hb⟩
theorem IntRd.nil (R : List Rng) : IntRd (.slice none 0 0) [] R:=SlRd.nil _ _
/-- a list that reads, in memory that is new -/
def IntNew (w : World) (v : Value) (l : List Int) (R : List Rng) : Prop:=IntRd v l R ∧ ∀ r ∈ R, w.heap.size ≤ r.1
theorem IntNew.nil (w : World) : IntNew w (.slice none 0 0) [] []:=⟨IntRd.nil _, by simp⟩
theorem IntNew.later {w W : World} {v : Value} {l : List Int} {R : List Rng} (hb : Below w.heap.size w W) (h : IntRd v l R) (hn : ∀ r ∈ R, W.heap.size ≤ r.1) : IntNew w v l R:=⟨h, fun r hr=>Nat.le_trans hb.size (hn r hr)⟩
theorem IntNew.hand {w W : World} {v : Value} {l : List Int} {R : List Rng} (h : IntNew w v l R) (hR : RdIn W R) (hb : Below w.heap.size w W) : IntsPost w l (.returned v) W:=⟨v, R, rfl, h.1, hR, h.2, hb⟩
theorem int_none {w w' : World} (hb : Below w.heap.size w w') : IntsPost w [] (.returned (.slice none 0 0)) w':=⟨_, [], rfl, IntRd.nil _, RdIn.nil _, by simp, hb⟩
theorem wt_without (l : List Int) (n : Int) : l.filter (fun x=>!decide (x = n)) = withoutR l n:=by
 unfold withoutR
 congr 1
theorem wtR_with (n : Int) : ∀ l : List Int, wtR l n = withR n l
 | []=>rfl
 | x :: l=>by
  show wtWith (x :: l) n false = _
  unfold withR
  rcases Int.lt_or_le x n with h | h
  ·rw [wtWith_gt h, if_neg (by omega)]
   congr 1
   exact wtR_with n l
  ·rw [wtWith_le h, if_pos h, wt_without]
set_option maxHeartbeats 8000000 in
set_option maxRecDepth 20000 in
theorem rwtwith_own (l : List Int) (n : Int) (v : Value) (R : List Rng) (w : World) (hv : SlRd v 1 l.length (intRow l) R) (hR : RdIn w R) (hl : l.length ≤ 1000000) :
  Calls Try.prog 35 #[v, .int .i64 n] w fun e w'=>∃ u, e = .returned u ∧ Below w.heap.size w w' ∧ w'.ownsRow w.heap.size 3 1 u (withR n l).length (intRow (withR n l)):=by
 obtain ⟨a, cap, rfl, hnc, hcm, hg⟩:=hv.open hR
 have HC : Hid (l.length ≤ cap ∧ cap ≤ maxLen):=⟨hnc, hcm⟩
 have HL:=Lib.hid hl
 have HUI : Hid (Try.prog.underlying 38 = some (.slice 3)):=Try.underlying38
 clear hv hR hnc hcm hl
 go_enter Try.func35, Try.ntmps35
 go_wp2_with fail
 have HS0 : Hid (Hp w [.sl (.slice none 0 0) 3 1 0 []] w):=(Hp.start w).nil 3 1
 go_loopw [5, 6, 7] (fun sv sd i wr=>∃ (v : Value) (k : Nat) (dn : Bool) (out : List Int), k ≤ l.length ∧ v = sv ∧ sd = .bool dn ∧ i = .int .i64 k ∧ out.length ≤ k + 1 ∧ WithSt n dn (l.take k) out ∧ Hp w [.sl v 3 1 (out).length (intRow (out))] wr) (fun _ _ i _=>l.length - (intOf i).toNat)
 case atStart=>exact ⟨_, 0, false, [], by omega, rfl, rfl, rfl, by simp, ⟨rfl, fun x hx=>by cases hx⟩, HS0.out⟩
 case round =>
  obtain ⟨v, k, dn, out, hk, hsv, rfl, rfl, ho, hst, hs⟩:=hrel
  subst hsv
  clear HS0
  have HY:=Lib.hid hs
  have HSt:=Lib.hid hst
  have HO:=Lib.hid ho
  clear hs hst ho
  by_cases hlt : k < l.length
  ·obtain ⟨g, off, rfl, hr⟩:=hg.out (by omega)
   have hc : wr.cell? ⟨g, off + k, none⟩ = some (.int .i64 l[k]):=hr wr HY.out.old k _ (intRow_at l k hlt)
   have hki : (k : Int) < (l.length : Int):=by omega
   have hk0 : (0 : Int) ≤ (k : Int):=by omega
   have hkm : (k : Int) < 1000000:=by have:=HL.out;omega
   have HT : Hid (l.take (k + 1) = l.take k ++ [l[k]]):=List.take_succ_eq_append_getElem hlt
   have HG : Hid (∀ W, Below w.heap.size w W → W.cell? ⟨g, off + k, none⟩ = some (.int .i64 l[k])):=fun W hb=>hr W hb k _ (intRow_at l k hlt)
   clear hr hg
   generalize l[k] = y at *
   cases dn
   case true =>
    by_cases heq : y = n
    ·have hxb : (y != n) = false:=by simp [heq]
     go_wp2_with fail
     go_roundw
     case rel=>exact ⟨_, k + 1, true, _, by omega, rfl, rfl, by go_num, by have:=HO.out;omega, by
      have h:=HSt.out.past (y:=y)
      rw [HT.out]
      rw [if_pos (by exact heq), List.append_nil] at h
      exact h, HY.out⟩
     case measure=>simp [intOf];omega
    ·have hne:=heq
     have hxb : (y != n) = true:=by simp [heq]
     go_wp2_with (first | ((with_reducible refine wpList_build_vals 38 1 elem_i HUI.out [.int .i64 y] ?_ ?_ ?_ ?_ ?_ ?_);(exact (by intro v hv;simp only [List.mem_cons, List.not_mem_nil, or_false] at hv;subst hv;rfl));(exact Nat.succ_pos _);(simp only [List.length_cons, List.length_nil];omega);(exact rfl);(simp only [List.map_toArray, List.map_cons, List.map_nil, List.zipIdx_cons, List.zipIdx_nil];exact rfl);simp only [z0, z1, z2, z3]) | ((with_reducible refine wpList_append_hp ((HY.out).put 3 ([.int .i64 y])) (.tmp 34) (.tmp 39) 38 0 (v:=v) (e:=3) (z:=1) (n:=out.length) (xs:=intRow out) ?_ 1 (b:=(wr.heap.size)) (t':=3) (ys:=[.int .i64 y]) ?_ HUI.out elem_i 1 1 ?_ ?_ ?_ ?_ ?_ ?_);(exact rfl);(exact rfl);(exact rfl);(exact rfl);(exact rfl);(exact (one_i y));(exact (by have:=HO.out;first | omega | (simp only [List.length_append, List.length_cons, List.length_nil];omega)))))
     intro v11 w11 hs hnil
     have HS12:=Lib.hid hs
     clear hs
     clear HY
     generalize wr.heap.size = B1 at *
     have HS13 : Hid (Hp w [.sl v11 3 1 (out.length + 1) ((intRow out) ++ ([.int .i64 y]))] w11):=HS12.out.pull [0] rfl (pull_nd HS12.out.nd [0] rfl (by decide))
     clear HS12
     have HS14 : Hid (Hp w [.sl v11 3 1 (out ++ [y]).length (intRow (out ++ [y]))] w11):=own_snoc HS13.out
     clear HS13
     go_wp2_with fail
     go_roundw
     case rel=>exact ⟨_, k + 1, true, _, by omega, rfl, rfl, by go_num, by have:=HO.out;simp only [List.length_append, List.length_cons, List.length_nil];omega, by
      have h:=HSt.out.past (y:=y)
      rw [HT.out]
      rw [if_neg (by exact hne)] at h
      exact h, HS14.out⟩
     case measure=>simp [intOf];omega
   case false =>
    by_cases hlow : y < n
    ·have hd : decide (n ≤ y) = false:=decide_eq_false (by omega)
     have hxb : (y != n) = true:=by simp;omega
     go_wp2_with (first | ((with_reducible refine wpList_build_vals 38 1 elem_i HUI.out [.int .i64 y] ?_ ?_ ?_ ?_ ?_ ?_);(exact (by intro v hv;simp only [List.mem_cons, List.not_mem_nil, or_false] at hv;subst hv;rfl));(exact Nat.succ_pos _);(simp only [List.length_cons, List.length_nil];omega);(exact rfl);(simp only [List.map_toArray, List.map_cons, List.map_nil, List.zipIdx_cons, List.zipIdx_nil];exact rfl);simp only [z0, z1, z2, z3]) | ((with_reducible refine wpList_append_hp ((HY.out).put 3 ([.int .i64 y])) (.tmp 34) (.tmp 39) 38 0 (v:=v) (e:=3) (z:=1) (n:=out.length) (xs:=intRow out) ?_ 1 (b:=(wr.heap.size)) (t':=3) (ys:=[.int .i64 y]) ?_ HUI.out elem_i 1 1 ?_ ?_ ?_ ?_ ?_ ?_);(exact rfl);(exact rfl);(exact rfl);(exact rfl);(exact rfl);(exact (one_i y));(exact (by have:=HO.out;first | omega | (simp only [List.length_append, List.length_cons, List.length_nil];omega)))))
     intro v11 w11 hs hnil
     have HS12:=Lib.hid hs
     clear hs
     clear HY
     generalize wr.heap.size = B1 at *
     have HS13 : Hid (Hp w [.sl v11 3 1 (out.length + 1) ((intRow out) ++ ([.int .i64 y]))] w11):=HS12.out.pull [0] rfl (pull_nd HS12.out.nd [0] rfl (by decide))
     clear HS12
     have HS14 : Hid (Hp w [.sl v11 3 1 (out ++ [y]).length (intRow (out ++ [y]))] w11):=own_snoc HS13.out
     clear HS13
     go_wp2_with fail
     go_roundw
     case rel=>exact ⟨_, k + 1, false, _, by omega, rfl, rfl, by go_num, by have:=HO.out;simp only [List.length_append, List.length_cons, List.length_nil];omega, by
      have h:=HSt.out.low hlow
      rw [HT.out]
      exact h, HS14.out⟩
     case measure=>simp [intOf];omega
    ·have hge : n ≤ y:=by omega
     have hd : decide (n ≤ y) = true:=decide_eq_true hge
     by_cases heq : y = n
     ·have hxb : (y != n) = false:=by simp [heq]
      go_wp2_with (first | ((with_reducible refine wpList_build_vals 38 1 elem_i HUI.out [.int .i64 n] ?_ ?_ ?_ ?_ ?_ ?_);(exact (by intro v hv;simp only [List.mem_cons, List.not_mem_nil, or_false] at hv;subst hv;rfl));(exact Nat.succ_pos _);(simp only [List.length_cons, List.length_nil];omega);(exact rfl);(simp only [List.map_toArray, List.map_cons, List.map_nil, List.zipIdx_cons, List.zipIdx_nil];exact rfl);simp only [z0, z1, z2, z3]) | ((with_reducible refine wpList_append_hp ((HY.out).put 3 ([.int .i64 n])) (.tmp 24) (.tmp 26) 38 0 (v:=v) (e:=3) (z:=1) (n:=out.length) (xs:=intRow out) ?_ 1 (b:=(wr.heap.size)) (t':=3) (ys:=[.int .i64 n]) ?_ HUI.out elem_i 1 1 ?_ ?_ ?_ ?_ ?_ ?_);(exact rfl);(exact rfl);(exact rfl);(exact rfl);(exact rfl);(exact (one_i n));(exact (by have:=HO.out;omega))))
      intro v11 w11 hs hnil
      have HS12:=Lib.hid hs
      clear hs
      clear HY
      generalize wr.heap.size = B1 at *
      have HS13 : Hid (Hp w [.sl v11 3 1 (out.length + 1) ((intRow out) ++ ([.int .i64 n]))] w11):=HS12.out.pull [0] rfl (pull_nd HS12.out.nd [0] rfl (by decide))
      clear HS12
      have HS14 : Hid (Hp w [.sl v11 3 1 (out ++ [n]).length (intRow (out ++ [n]))] w11):=own_snoc HS13.out
      clear HS13
      have hc2 : w11.cell? ⟨g, off + k, none⟩ = some (.int .i64 y):=HG.out _ HS14.out.old
      go_wp2_with fail
      go_roundw
      case rel=>exact ⟨_, k + 1, true, _, by omega, rfl, rfl, by go_num, by have h:=congrArg List.length HSt.out.1;rw [List.length_take] at h;simp only [List.length_append, List.length_cons, List.length_nil];omega, by
       have h:=HSt.out.here hge
       rw [HT.out]
       rw [if_pos (by exact heq), List.append_nil] at h
       exact h, HS14.out⟩
      case measure=>simp [intOf];omega
     ·have hne:=heq
      have hxb : (y != n) = true:=by simp [heq]
      go_wp2_with (first | ((with_reducible refine wpList_build_vals 38 1 elem_i HUI.out [.int .i64 n] ?_ ?_ ?_ ?_ ?_ ?_);(exact (by intro v hv;simp only [List.mem_cons, List.not_mem_nil, or_false] at hv;subst hv;rfl));(exact Nat.succ_pos _);(simp only [List.length_cons, List.length_nil];omega);(exact rfl);(simp only [List.map_toArray, List.map_cons, List.map_nil, List.zipIdx_cons, List.zipIdx_nil];exact rfl);simp only [z0, z1, z2, z3]) | ((with_reducible refine wpList_append_hp ((HY.out).put 3 ([.int .i64 n])) (.tmp 24) (.tmp 26) 38 0 (v:=v) (e:=3) (z:=1) (n:=out.length) (xs:=intRow out) ?_ 1 (b:=(wr.heap.size)) (t':=3) (ys:=[.int .i64 n]) ?_ HUI.out elem_i 1 1 ?_ ?_ ?_ ?_ ?_ ?_);(exact rfl);(exact rfl);(exact rfl);(exact rfl);(exact rfl);(exact (one_i n));(exact (by have:=HO.out;omega))))
      intro v11 w11 hs hnil
      have HS12:=Lib.hid hs
      clear hs
      clear HY
      generalize wr.heap.size = B1 at *
      have HS13 : Hid (Hp w [.sl v11 3 1 (out.length + 1) ((intRow out) ++ ([.int .i64 n]))] w11):=HS12.out.pull [0] rfl (pull_nd HS12.out.nd [0] rfl (by decide))
      clear HS12
      have HS14 : Hid (Hp w [.sl v11 3 1 (out ++ [n]).length (intRow (out ++ [n]))] w11):=own_snoc HS13.out
      clear HS13
      have hc2 : w11.cell? ⟨g, off + k, none⟩ = some (.int .i64 y):=HG.out _ HS14.out.old
      go_wp2_with (first | ((with_reducible refine wpList_build_vals 38 1 elem_i HUI.out [.int .i64 y] ?_ ?_ ?_ ?_ ?_ ?_);(exact (by intro v hv;simp only [List.mem_cons, List.not_mem_nil, or_false] at hv;subst hv;rfl));(exact Nat.succ_pos _);(simp only [List.length_cons, List.length_nil];omega);(exact rfl);(simp only [List.map_toArray, List.map_cons, List.map_nil, List.zipIdx_cons, List.zipIdx_nil];exact rfl);simp only [z0, z1, z2, z3]) | ((with_reducible refine wpList_append_hp ((HS14.out).put 3 ([.int .i64 y])) (.tmp 34) (.tmp 39) 38 0 (v:=v11) (e:=3) (z:=1) (n:=(out ++ [n]).length) (xs:=intRow (out ++ [n])) ?_ 1 (b:=(w11.heap.size)) (t':=3) (ys:=[.int .i64 y]) ?_ HUI.out elem_i 1 1 ?_ ?_ ?_ ?_ ?_ ?_);(exact rfl);(exact rfl);(exact rfl);(exact rfl);(exact rfl);(exact (one_i y));(exact (by have:=HO.out;first | omega | (simp only [List.length_append, List.length_cons, List.length_nil];omega)))))
      intro v12 w12 hs hnil
      have HS16:=Lib.hid hs
      clear hs
      clear HS14
      generalize w11.heap.size = B2 at *
      have HS17 : Hid (Hp w [.sl v12 3 1 ((out ++ [n]).length + 1) ((intRow (out ++ [n])) ++ ([.int .i64 y]))] w12):=HS16.out.pull [0] rfl (pull_nd HS16.out.nd [0] rfl (by decide))
      clear HS16
      have HS18 : Hid (Hp w [.sl v12 3 1 ((out ++ [n]) ++ [y]).length (intRow ((out ++ [n]) ++ [y]))] w12):=own_snoc HS17.out
      clear HS17
      go_wp2_with fail
      go_roundw
      case rel=>exact ⟨_, k + 1, true, _, by omega, rfl, rfl, by go_num, by have h:=congrArg List.length HSt.out.1;rw [List.length_take] at h;simp only [List.length_append, List.length_cons, List.length_nil];omega, by
       have h:=HSt.out.here hge
       rw [HT.out]
       rw [if_neg (by exact hne)] at h
       exact h, HS18.out⟩
      case measure=>simp [intOf];omega
  ·obtain rfl : k = l.length:=by omega
   rw [List.take_length] at HSt
   have HE:=Lib.hid HSt.out.end
   cases dn
   case true =>
    have HE2 : Hid (withR n l = out):=HE.out
    clear HE
    go_wp2_with fail
    go_ret
    exact ⟨_, rfl, HY.out.old, by rw [HE2.out];exact HY.out.own 0 rfl⟩
   case false =>
    have HE2 : Hid (withR n l = out ++ [n]):=HE.out
    clear HE
    go_wp2_with (first | ((with_reducible refine wpList_build_vals 38 1 elem_i HUI.out [.int .i64 n] ?_ ?_ ?_ ?_ ?_ ?_);(exact (by intro v hv;simp only [List.mem_cons, List.not_mem_nil, or_false] at hv;subst hv;rfl));(exact Nat.succ_pos _);(simp only [List.length_cons, List.length_nil];omega);(exact rfl);(simp only [List.map_toArray, List.map_cons, List.map_nil, List.zipIdx_cons, List.zipIdx_nil];exact rfl);simp only [z0, z1, z2, z3]) | ((with_reducible refine wpList_append_hp ((HY.out).put 3 ([.int .i64 n])) (.tmp 43) (.tmp 45) 38 0 (v:=v) (e:=3) (z:=1) (n:=out.length) (xs:=intRow out) ?_ 1 (b:=(wr.heap.size)) (t':=3) (ys:=[.int .i64 n]) ?_ HUI.out elem_i 1 1 ?_ ?_ ?_ ?_ ?_ ?_);(exact rfl);(exact rfl);(exact rfl);(exact rfl);(exact rfl);(exact (one_i n));(exact (by have:=HO.out;have:=HL.out;omega))))
    intro v11 w11 hs hnil
    have HS12:=Lib.hid hs
    clear hs
    clear HY
    generalize wr.heap.size = B1 at *
    have HS13 : Hid (Hp w [.sl v11 3 1 (out.length + 1) ((intRow out) ++ ([.int .i64 n]))] w11):=HS12.out.pull [0] rfl (pull_nd HS12.out.nd [0] rfl (by decide))
    clear HS12
    have HF : Hid (Hp w [.sl v11 3 1 (out ++ [n]).length (intRow (out ++ [n]))] w11):=own_snoc HS13.out
    go_wp2_with fail
    go_ret
    exact ⟨_, rfl, HF.out.old, by rw [HE2.out];exact HF.out.own 0 rfl⟩
theorem rwtwith_any (l : List Int) (n : Int) (v : Value) (R : List Rng) (w : World) (hv : IntRd v l R) (hR : RdIn w R) (hl : l.length ≤ 1000000) :
  Calls Try.prog 35 #[v, .int .i64 n] w (IntsPost w (wtR l n)):=by
 refine (rwtwith_own l n v R w hv hR hl).mono ?_
 rintro e w' ⟨u, rfl, hb, ho⟩
 rw [wtR_with]
 exact int_hand ho hb
end Go.Proofs.Ytooaldglgkjjgaa
/- the reference's For of chapter 9 -/
namespace Go.Proofs.Ytooaldglgkjjgaa
open Go.RowKit
open Go.Act renaming put → z0
open List renaming setIfInBounds_toArray → z1, set_cons_zero → z2, set_cons_succ → z3
set_option maxRecDepth 20000
set_option linter.unusedSimpArgs false
set_option linter.unusedVariables false

theorem wtR_len (l : List Int) (n : Int) : (wtR l n).length ≤ l.length + 1:=by
 unfold wtR
 induction l with
 | nil=>exact Nat.le_refl _
 | cons x l ih =>
  rcases Int.lt_or_le x n with h | h
  ·rw [wtWith_gt h, List.length_cons, List.length_cons];omega
  ·rw [wtWith_le h, List.length_cons]
   have:=List.length_filter_le (fun y=>!decide (y = n)) (x :: l)
   omega
theorem forFold_len (g : Gr) : ∀ (l : List Gr) (o : List Int), (l.foldl (forStep g) o).length ≤ o.length + l.length
 | [], o=>Nat.le_refl _
 | x :: l, o=>by
  rw [List.foldl_cons]
  refine Nat.le_trans (forFold_len g l _) ?_
  have : (forStep g o x).length ≤ o.length + 1:=by
   unfold forStep;split
   ·exact wtR_len _ _
   ·omega
  rw [List.length_cons];omega
theorem fold_next {α : Type} {f : α → Gr → α} {l : List Gr} {i : Nat} {x : Gr} (o : α) (hx : l[i]? = some x) : (l.take (i + 1)).foldl f o = f ((l.take i).foldl f o) x:=by
 rw [lk_take_snoc hx, List.foldl_append];rfl
theorem while_end {m : List Gr} {i : Nat} {tx : Int} (h : ∀ x ∈ m.take i, x.tx ≠ tx) (he : i = m.length ∨ ∃ x, m[i]? = some x ∧ x.tx = tx) : m.takeWhile (fun x=>!decide (x.tx = tx)) = m.take i:=by
 have h1 : ∀ x ∈ m.take i, (fun x : Gr=>!decide (x.tx = tx)) x = true:=fun x hx=>by simpa using h x hx
 have e : m.takeWhile (fun x=>!decide (x.tx = tx)) = (m.take i ++ m.drop i).takeWhile (fun x=>!decide (x.tx = tx)):=by rw [List.take_append_drop]
 rw [e, List.takeWhile_append_of_pos h1]
 rcases he with rfl | ⟨x, hx, ht⟩
 ·rw [List.drop_length, List.takeWhile_nil, List.append_nil]
 ·obtain ⟨hi, hxi⟩:=List.getElem?_eq_some_iff.1 hx
  rw [List.drop_eq_getElem_cons hi, hxi, List.takeWhile_cons, if_neg (by simp [ht]), List.append_nil]
theorem for_no {t : Tb} {tx : Int} (h : (waitR t tx).2 = false) : forR t tx = []:=by unfold forR;rw [h];rfl
theorem wait_good {t : Tb} {tx : Int} (hg : GoodTb t) (h : (waitR t tx).2 = true) : GoodGr (waitR t tx).1:=by
 unfold waitR at h ⊢
 split at h
 ·next hb =>
  rw [if_pos hb]
  cases hw : wfind t.wait tx with
  | none=>rw [hw] at h;cases h
  | some g=>exact hg.wait g (wfind_some hw).1
 ·cases h
abbrev qRfWt2_0 : Oper:={ dst:=some 25, op:=Op.fieldAddr 25 (Operand.tmp 2) 0, type:=0, pos := "ref.go:36", after:=#[], guard:=none }
abbrev qRfWt2_1 : Oper:={ dst:=some 26, op:=Op.load 23 (Operand.tmp 25), type:=23, pos := "ref.go:36", after:=#[{ on:=0, ground:=Ground.data }], guard:=none }
abbrev qRfWt2_2 : Oper:={ dst:=some 27, op:=Op.move (Operand.tmp 8), type:=3, pos := "ref.go:36", after:=#[], guard:=none }
abbrev qRfWt2_3 : Oper:={ dst:=some 28, op:=Op.indexAddr 23 (Operand.tmp 26) (Operand.tmp 27), type:=0, pos := "ref.go:36", after:=#[{ on:=1, ground:=Ground.data }, { on:=2, ground:=Ground.data }], guard:=none }
abbrev qRfWt2_4 : Oper:={ dst:=some 29, op:=Op.load 29 (Operand.tmp 28), type:=29, pos := "ref.go:36", after:=#[{ on:=3, ground:=Ground.data }], guard:=none }
abbrev qRfWt2_5 : Oper:={ dst:=some 30, op:=Op.load 29 (Operand.tmp 5), type:=29, pos := "ref.go:36", after:=#[], guard:=none }
abbrev qRfWt2_6 : Oper:={ dst:=some 31, op:=Op.call { callee:=Callee.value (Operand.func 34), args:=#[Operand.tmp 29, Operand.tmp 30], argTypes:=#[29, 29] }, type:=4, pos := "ref.go:36", after:=#[{ on:=4, ground:=Ground.data }, { on:=5, ground:=Ground.data }], guard:=none }
abbrev qRfWt2_7 : Oper:={ dst:=some 57, op:=Op.fieldAddr 25 (Operand.tmp 2) 1, type:=0, pos := "ref.go:41", after:=#[], guard:=none }
abbrev qRfWt2_8 : Oper:={ dst:=some 58, op:=Op.load 23 (Operand.tmp 57), type:=23, pos := "ref.go:41", after:=#[{ on:=0, ground:=Ground.data }], guard:=none }
abbrev qRfWt2_9 : Oper:={ dst:=some 59, op:=Op.move (Operand.tmp 9), type:=3, pos := "ref.go:41", after:=#[], guard:=none }
abbrev qRfWt2_10 : Oper:={ dst:=some 60, op:=Op.indexAddr 23 (Operand.tmp 58) (Operand.tmp 59), type:=0, pos := "ref.go:41", after:=#[{ on:=1, ground:=Ground.data }, { on:=2, ground:=Ground.data }], guard:=none }
abbrev qRfWt2_11 : Oper:={ dst:=some 61, op:=Op.load 29 (Operand.tmp 60), type:=29, pos := "ref.go:41", after:=#[{ on:=3, ground:=Ground.data }], guard:=none }
abbrev qRfWt2_12 : Oper:={ dst:=some 62, op:=Op.load 29 (Operand.tmp 5), type:=29, pos := "ref.go:41", after:=#[], guard:=none }
abbrev qRfWt2_13 : Oper:={ dst:=some 63, op:=Op.call { callee:=Callee.value (Operand.func 34), args:=#[Operand.tmp 61, Operand.tmp 62], argTypes:=#[29, 29] }, type:=4, pos := "ref.go:41", after:=#[{ on:=4, ground:=Ground.data }, { on:=5, ground:=Ground.data }], guard:=none }
set_option maxHeartbeats 8000000 in
theorem rfor_any {h v : Value} {t : Tb} {R : List Rng} (tx : Int) (w : World) (ht : TbRd h v t R) (hR : RdIn w R) (hg : GoodTb t) :
  Calls Try.prog 13 #[.agg (tbCells h v).toArray, .int .i64 tx] w (IntsPost w (forR t tx)):=by
 obtain ⟨g, ok, hwr⟩ : ∃ g ok, waitR t tx = (g, ok):=⟨_, _, rfl⟩
 have HWt : Hid (∀ W, Below w.heap.size w W → Calls Try.prog 33 #[.agg (tbCells h v).toArray, .int .i64 tx] W fun e w'=>e = .returned (.tuple #[.agg (grCells g).toArray, .bool ok]) ∧ Below W.heap.size W w'):=fun W hb=>by
  have:=rWaiting_any tx W ht (hR.below hb) hg
  rwa [hwr] at this
 have HNo : Hid (ok = false → forR t tx = []):=fun e=>for_no (by rw [hwr];exact e)
 have HGd : Hid (ok = true → GoodGr g):=fun e=>by
  have:=wait_good (tx:=tx) hg (by rw [hwr];exact e)
  rwa [hwr] at this
 have HF : Hid (ok = true → forR t tx = (t.wait.takeWhile (fun x=>!decide (x.tx = tx))).foldl (forStep g) (t.held.foldl (forStep g) [])):=fun e=>by
  unfold forR
  rw [hwr, if_pos (by exact e)]
 obtain ⟨a, cap, rfl, hnc, hcm, hg0⟩:=SlRd.open ht.1 hR
 obtain ⟨a2, cap2, rfl, hnc2, hcm2, hg2⟩:=SlRd.open ht.2 hR
 have HGe:=Lib.hid hg.held
 have HGw:=Lib.hid hg.wait
 have hfew:=hg.few
 clear ht hR hg hwr
 generalize forR t tx = res at *
 generalize t.held = l at *
 generalize t.wait = m at *
 have HN : Hid (l.length ≤ 100000 ∧ m.length ≤ 100000):=Lib.hid (by omega)
 have hn1 : (l.length : Int) ≤ 100000:=by omega
 have hm1 : (m.length : Int) ≤ 100000:=by omega
 clear hfew
 have h1:=(Hp.start w).put 25 (tbCells (.slice a l.length cap) (.slice a2 m.length cap2))
 simp only [List.nil_append] at h1
 have HS0 : Hid (Hp w [.ob w.heap.size 25 (tbCells (.slice a l.length cap) (.slice a2 m.length cap2))] (w.alloc (.cells (tbCells (.slice a l.length cap) (.slice a2 m.length cap2)).toArray 25))):=h1
 clear h1
 obtain ⟨fsHUG, huHUG⟩:=under_gr
 have HUG:=Lib.hid huHUG
 clear huHUG
 obtain ⟨fsHUK, huHUK⟩:=under_lk
 have HUK:=Lib.hid huHUK
 clear huHUK
 obtain ⟨fsHUT, huHUT⟩:=under_tb
 have HUT:=Lib.hid huHUT
 clear huHUT
 go_enter Try.func13, Try.ntmps13
 go_upto_region 1 with (fail)
 generalize (w.alloc (.cells (tbCells (.slice a l.length cap) (.slice a2 m.length cap2)).toArray 25)) = w1 at *
 go_wp2_with (first | ((with_reducible refine wpList_load_ob 25 (.tmp 2) (w.heap.size) (tbCells (.slice a l.length cap) (.slice a2 m.length cap2)) 25 HUT.out ?_ ?_ ?_ ?_ ?_);(exact rfl);(exact (HS0.out).get 0 rfl);(exact rfl);(exact info_tb);simp only [z0, z1, z2, z3]))
 refine (HWt.out _ (HS0.out).old).mono ?_
 rintro e w21 ⟨rfl, hb⟩
 have HS21:=Lib.hid ((HS0.out).calls hb)
 clear hb
 clear HS0
 go_upto_region 2 with (first | ((with_reducible refine wpList_alloc_ob 29 (grCells grNil) ?_ ?_);(exact alloc_gr);simp only [z0, z1, z2, z3]) | ((with_reducible refine wpList_store_ob 29 (.tmp 5) (w21.heap.size) (grCells g) (grCells grNil) 29 ?_ ?_ ?_ ?_ ?_ ?_ ?_);(exact rfl);(exact rfl);(exact ((HS21.out).put 29 (grCells grNil)).get 1 rfl);(exact info_gr);(exact rfl);(exact (oneCell_gr _));skip))
 have HS22 : Hid (Hp w [.ob (w.heap.size) 25 (tbCells (.slice a l.length cap) (.slice a2 m.length cap2)), .ob (w21.heap.size) 29 (grCells g)] ((w21.alloc (.cells (grCells grNil).toArray 29)).setRow (w21.heap.size) (grCells g).toArray)):=((HS21.out).put 29 (grCells grNil)).row 1 rfl (grCells g)
 clear HS21
 generalize ((w21.alloc (.cells (grCells grNil).toArray 29)).setRow (w21.heap.size) (grCells g).toArray) = w22 at *
 generalize w21.heap.size = B21 at *
 have HS23 : Hid (Hp w [.ob (w.heap.size) 25 (tbCells (.slice a l.length cap) (.slice a2 m.length cap2)), .ob B21 29 (grCells g)] w22):=HS22.out.pull [0, 1] rfl (pull_nd HS22.out.nd [0, 1] rfl (by decide))
 clear HS22
 cases ok
 ·have HR0:=Lib.hid (HNo.out rfl)
  go_wp2_with fail
  go_ret
  rw [HR0.out]
  exact int_none HS23.out.old
 have HR0:=Lib.hid (HF.out rfl)
 have HGg:=Lib.hid (HGd.out rfl)
 clear HF HGd HNo HWt
 generalize B21 = B5 at *
 generalize w22 = w5 at *
 go_wp2_with fail
 have HS5 : Hid (Hp w [.ob w.heap.size 25 (tbCells (.slice a l.length cap) (.slice a2 m.length cap2)), .ob B5 29 (grCells g), .rd []] w5):=HS23.out.addrd (Below.refl _ _) [] (RdIn.nil _) (by simp)
 clear HS23
 go_loopw [7, 8] (fun ov iv wr=>∃ (i : Nat) (R : List Rng), i ≤ l.length ∧ iv = .int .i64 i ∧ IntNew w ov ((l.take i).foldl (forStep g) []) R ∧ Hp w [.ob w.heap.size 25 (tbCells (.slice a l.length cap) (.slice a2 m.length cap2)), .ob B5 29 (grCells g), .rd R] wr) (fun _ iv _=>l.length - (intOf iv).toNat)
 case atStart=>exact ⟨0, [], by omega, rfl, IntNew.nil _, HS5.out⟩
 case round =>
  clear HS5
  obtain ⟨i, R1, hi, rfl, hrd, hs⟩:=hrel
  have HO:=Lib.hid hrd
  have HY:=Lib.hid hs
  clear hs hrd
  have b0 : wr.cell? ⟨w.heap.size, 0, none⟩ = some (.slice a l.length cap):=HY.out.at 0 rfl 0 rfl
  by_cases hlt : i < l.length
  ·obtain ⟨g0, off, rfl, hr⟩:=hg0.out (by omega)
   have HRg:=Lib.hid hr
   obtain ⟨x, hx⟩ : ∃ x, l[i]? = some x:=⟨_, List.getElem?_eq_getElem hlt⟩
   have HXi:=Lib.hid hx
   have hii : (i : Int) < (l.length : Int):=by omega
   have hi0 : (0 : Int) ≤ (i : Int):=by omega
   have HLt:=Lib.hid hlt
   have HCf : Hid (∀ W, Calls Try.prog 34 #[.agg (grCells x).toArray, .agg (grCells g).toArray] W fun e w'=>e = .returned (.bool (confB x g)) ∧ Below W.heap.size W w'):=fun W=>rconflict_any x g W (HGe.out x (List.mem_of_getElem? hx)) HGg.out
   have HFo : Hid ((l.take (i + 1)).foldl (forStep g) [] = if confB x g = true then wtR ((l.take i).foldl (forStep g) []) x.tx else (l.take i).foldl (forStep g) []):=fold_next [] hx
   have HFl : Hid (((l.take i).foldl (forStep g) []).length ≤ 1000000):=Lib.hid (by have:=forFold_len g (l.take i) [];rw [List.length_take] at this;have:=HN.out;simp only [List.length_nil] at *;omega)
   clear hr hg0 hx hi hlt
   generalize (l.take i).foldl (forStep g) [] = acc at *
   generalize confB x g = cb at *
   cases cb
   case false =>
    go_upto_region 8 with (fail)
    clear b0
    refine wp_region_held_drew (S:=fun w'=>w'.rangeAt w.heap.size 0 (tbCells (.slice (some ⟨g0, off, none⟩) l.length cap) (.slice a2 m.length cap2)) ∧ w'.rangeAt g0 (off + i * 4) (grCells x) ∧ w'.rangeAt B5 0 (grCells g)) (by kernel_rfl) (⟨(fun j v hv=>by rw [Nat.zero_add];exact ((HY.out).drew).at 0 rfl j hv), (elem_rng (HRg.out _ ((HY.out).drew).old) HXi.out), (fun j v hv=>by rw [Nat.zero_add];exact ((HY.out).drew).at 1 rfl j hv)⟩) (fun hHeld=>?_)
    refine tk 0 qRfWt2_0 (some 25) (v:=?q1v) (Or.inl ⟨by rfl, ?q1h⟩) hHeld ?q1r
    case q1h=>(intro _ h;clear h;go_simp;try with_reducible rfl)
    try simp only [z0, z1, z2, z3]
    refine tk 1 qRfWt2_1 (some 26) (v:=.slice (some ⟨g0, off, none⟩) l.length cap) (Or.inl ⟨by rfl, ?q2h⟩) hHeld ?q2r
    case q2h=>(intro wq hSw;have lq:=(hSw.1) 0 (.slice (some ⟨g0, off, none⟩) l.length cap) rfl;simp only [Nat.zero_add] at lq;clear hSw;go_simp;try with_reducible rfl)
    try simp only [z0, z1, z2, z3]
    refine tk 2 qRfWt2_2 (some 27) (v:=?q3v) (Or.inl ⟨by rfl, ?q3h⟩) hHeld ?q3r
    case q3h=>(intro _ h;clear h;go_simp;try with_reducible rfl)
    try simp only [z0, z1, z2, z3]
    refine tk 3 qRfWt2_3 (some 28) (v:=?q4v) (Or.inl ⟨by rfl, ?q4h⟩) hHeld ?q4r
    case q4h=>(intro _ h;clear h;go_simp;try with_reducible rfl)
    try simp only [z0, z1, z2, z3]
    refine tk 4 qRfWt2_4 (some 29) (yieldsIf_load_mid (by rfl) 29 (.tmp 28) rfl g0 (off + i * 4) rfl (grCells x) _ (fun _ h=>h.2.1) HUG.out rfl (info_gr)) hHeld ?_
    try simp only [z0, z1, z2, z3]
    refine tk 5 qRfWt2_5 (some 30) (yieldsIf_load_mid (by rfl) 29 (.tmp 5) rfl B5 (0) rfl (grCells g) _ (fun _ h=>h.2.2) HUG.out rfl (info_gr)) hHeld ?_
    try simp only [z0, z1, z2, z3]
    refine tn 6 qRfWt2_6 (fun K hK=>?_)
    go_simp
    go_wp2_with (go_at_call 34;refine (HCf.out _).mono ?_;rintro e w31 ⟨rfl, hb⟩)
    have HS31 : Hid (Hp w [.ob (w.heap.size) 25 (tbCells (.slice (some ⟨g0, off, none⟩) l.length cap) (.slice a2 m.length cap2)), .ob B5 29 (grCells g), .rd R1] w31):=((HY.out).drew).calls hb
    refine hK.out _ _ (⟨(fun j v hv=>by rw [Nat.zero_add];exact (HS31.out).at 0 rfl j hv), (elem_rng (HRg.out _ (HS31.out).old) HXi.out), (fun j v hv=>by rw [Nat.zero_add];exact (HS31.out).at 1 rfl j hv)⟩) (fun hHeld=>?_)
    clear hK K hb
    try simp only [z0, z1, z2, z3]
    refine wpAnyH_done (by kernel_rfl) ?_ _
    go_wp2_with fail
    go_roundw
    case rel =>
     refine ⟨i + 1, R1, HLt.out, by go_num, ?_, HS31.out⟩
     rw [HFo.out, if_neg (by decide)]
     exact HO.out
    case measure=>simp [intOf];try (have:=HLt.out;omega)
   case true =>
    go_upto_region 8 with (fail)
    clear b0
    refine wp_region_held_drew (S:=fun w'=>w'.rangeAt w.heap.size 0 (tbCells (.slice (some ⟨g0, off, none⟩) l.length cap) (.slice a2 m.length cap2)) ∧ w'.rangeAt g0 (off + i * 4) (grCells x) ∧ w'.rangeAt B5 0 (grCells g)) (by kernel_rfl) (⟨(fun j v hv=>by rw [Nat.zero_add];exact ((HY.out).drew).at 0 rfl j hv), (elem_rng (HRg.out _ ((HY.out).drew).old) HXi.out), (fun j v hv=>by rw [Nat.zero_add];exact ((HY.out).drew).at 1 rfl j hv)⟩) (fun hHeld=>?_)
    refine tk 0 qRfWt2_0 (some 25) (v:=?q51v) (Or.inl ⟨by rfl, ?q51h⟩) hHeld ?q51r
    case q51h=>(intro _ h;clear h;go_simp;try with_reducible rfl)
    try simp only [z0, z1, z2, z3]
    refine tk 1 qRfWt2_1 (some 26) (v:=.slice (some ⟨g0, off, none⟩) l.length cap) (Or.inl ⟨by rfl, ?q52h⟩) hHeld ?q52r
    case q52h=>(intro wq hSw;have lq:=(hSw.1) 0 (.slice (some ⟨g0, off, none⟩) l.length cap) rfl;simp only [Nat.zero_add] at lq;clear hSw;go_simp;try with_reducible rfl)
    try simp only [z0, z1, z2, z3]
    refine tk 2 qRfWt2_2 (some 27) (v:=?q53v) (Or.inl ⟨by rfl, ?q53h⟩) hHeld ?q53r
    case q53h=>(intro _ h;clear h;go_simp;try with_reducible rfl)
    try simp only [z0, z1, z2, z3]
    refine tk 3 qRfWt2_3 (some 28) (v:=?q54v) (Or.inl ⟨by rfl, ?q54h⟩) hHeld ?q54r
    case q54h=>(intro _ h;clear h;go_simp;try with_reducible rfl)
    try simp only [z0, z1, z2, z3]
    refine tk 4 qRfWt2_4 (some 29) (yieldsIf_load_mid (by rfl) 29 (.tmp 28) rfl g0 (off + i * 4) rfl (grCells x) _ (fun _ h=>h.2.1) HUG.out rfl (info_gr)) hHeld ?_
    try simp only [z0, z1, z2, z3]
    refine tk 5 qRfWt2_5 (some 30) (yieldsIf_load_mid (by rfl) 29 (.tmp 5) rfl B5 (0) rfl (grCells g) _ (fun _ h=>h.2.2) HUG.out rfl (info_gr)) hHeld ?_
    try simp only [z0, z1, z2, z3]
    refine tn 6 qRfWt2_6 (fun K hK=>?_)
    go_simp
    go_wp2_with (go_at_call 34;refine (HCf.out _).mono ?_;rintro e w31 ⟨rfl, hb⟩)
    have HS31 : Hid (Hp w [.ob (w.heap.size) 25 (tbCells (.slice (some ⟨g0, off, none⟩) l.length cap) (.slice a2 m.length cap2)), .ob B5 29 (grCells g), .rd R1] w31):=((HY.out).drew).calls hb
    refine hK.out _ _ (⟨(fun j v hv=>by rw [Nat.zero_add];exact (HS31.out).at 0 rfl j hv), (elem_rng (HRg.out _ (HS31.out).old) HXi.out), (fun j v hv=>by rw [Nat.zero_add];exact (HS31.out).at 1 rfl j hv)⟩) (fun hHeld=>?_)
    clear hK K hb
    try simp only [z0, z1, z2, z3]
    refine wpAnyH_done (by kernel_rfl) ?_ _
    have b0 : w31.cell? ⟨w.heap.size, 0, none⟩ = some (.slice (some ⟨g0, off, none⟩) l.length cap):=HS31.out.at 0 rfl 0 rfl
    have cx0 : w31.cell? ⟨g0, off + i * 4, none⟩ = some (.int .i64 x.tx):=HRg.out _ HS31.out.old (i * 4 + 0) _ (grRow_at l i x HXi.out 0 _ rfl)
    go_wp2_with fail
    refine (rwtwith_any acc x.tx u7 R1 _ HO.out.1 (HS31.out.reads 2 rfl) HFl.out).mono ?_
    rintro e w90 ⟨ov2, R2, rfl, hrd2, hin2, hnew2, hb⟩
    have HN90:=Lib.hid (IntNew.later HS31.out.old hrd2 hnew2)
    have HS90:=Lib.hid (HS31.out.addrd hb R2 hin2 (fun r hr=>.inl (hnew2 r hr)))
    have HS91 : Hid (Hp w [.ob w.heap.size 25 (tbCells (.slice (some ⟨g0, off, none⟩) l.length cap) (.slice a2 m.length cap2)), .ob B5 29 (grCells g), .rd R2] w90):=HS90.out.pull [0, 1, 3] rfl (pull_nd HS90.out.nd [0, 1, 3] rfl (by decide))
    clear HS90 hb hin2 hnew2 hrd2 b0 cx0 HS31
    go_wp2_with fail
    go_roundw
    case rel =>
     refine ⟨i + 1, R2, HLt.out, by go_num, ?_, HS91.out⟩
     first | rw [HFo.out, if_pos trivial] | rw [HFo.out, if_pos rfl]
     exact HN90.out
    case measure=>simp [intOf];try (have:=HLt.out;omega)
  ·obtain rfl : i = l.length:=by omega
   have HO1 : Hid (IntNew w u7 (l.foldl (forStep g) []) R1):=Lib.hid (by have:=HO.out;rwa [List.take_length] at this)
   have HHl : Hid ((l.foldl (forStep g) []).length ≤ 100000):=Lib.hid (by have:=forFold_len g l [];have:=HN.out;simp only [List.length_nil] at *;omega)
   clear hlt hi HO
   generalize l.foldl (forStep g) [] = acc0 at *
   go_wp2_with fail
   clear b0
   go_loopw [7, 9] (fun ov iv wr=>∃ (i : Nat) (R : List Rng), i ≤ m.length ∧ iv = .int .i64 i ∧ (∀ x ∈ m.take i, x.tx ≠ tx) ∧ IntNew w ov ((m.take i).foldl (forStep g) acc0) R ∧ Hp w [.ob w.heap.size 25 (tbCells (.slice a l.length cap) (.slice a2 m.length cap2)), .ob B5 29 (grCells g), .rd R] wr) (fun _ iv _=>m.length - (intOf iv).toNat)
   case atStart=>exact ⟨0, R1, by omega, rfl, fun x hx=>by simp at hx, HO1.out, HY.out⟩
   case round =>
    clear HY HO1
    obtain ⟨i, R1, hi, rfl, hne, hrd, hs⟩:=hrel
    have HO:=Lib.hid hrd
    have HY:=Lib.hid hs
    have HNe:=Lib.hid hne
    clear hs hrd hne
    have b1 : wr.cell? ⟨w.heap.size, 1, none⟩ = some (.slice a2 m.length cap2):=HY.out.at 0 rfl 1 rfl
    by_cases hlt : i < m.length
    ·obtain ⟨g0, off, rfl, hr⟩:=hg2.out (by omega)
     have HRg:=Lib.hid hr
     obtain ⟨x, hx⟩ : ∃ x, m[i]? = some x:=⟨_, List.getElem?_eq_getElem hlt⟩
     have HXi:=Lib.hid hx
     have hii : (i : Int) < (m.length : Int):=by omega
     have hi0 : (0 : Int) ≤ (i : Int):=by omega
     have HLt:=Lib.hid hlt
     have cx0 : wr.cell? ⟨g0, off + i * 4, none⟩ = some (.int .i64 x.tx):=HRg.out wr HY.out.old (i * 4 + 0) _ (grRow_at m i x HXi.out 0 _ rfl)
     by_cases htx : x.tx = tx
     ·obtain ⟨e1, n1⟩:=eq_facts htx
      have HE : Hid (res = (m.take i).foldl (forStep g) acc0):=Lib.hid (by rw [HR0.out, while_end HNe.out (.inr ⟨x, hx, htx⟩)])
      clear hr hg2 hx hi hlt htx
      go_wp2_with fail
      go_ret
      rw [HE.out]
      exact HO.out.hand (HY.out.reads 2 rfl) HY.out.old
     ·obtain ⟨e1, n1⟩:=ne_facts htx
      have HNe2 : Hid (∀ z ∈ m.take (i + 1), z.tx ≠ tx):=Lib.hid (by
       intro z hz
       rw [lk_take_snoc hx] at hz
       rcases List.mem_append.1 hz with hz | hz
       ·exact HNe.out z hz
       ·rw [List.mem_singleton.1 hz];exact htx)
      have HCf : Hid (∀ W, Calls Try.prog 34 #[.agg (grCells x).toArray, .agg (grCells g).toArray] W fun e w'=>e = .returned (.bool (confB x g)) ∧ Below W.heap.size W w'):=fun W=>rconflict_any x g W (HGw.out x (List.mem_of_getElem? hx)) HGg.out
      have HFo : Hid ((m.take (i + 1)).foldl (forStep g) acc0 = if confB x g = true then wtR ((m.take i).foldl (forStep g) acc0) x.tx else (m.take i).foldl (forStep g) acc0):=fold_next acc0 hx
      have HFl : Hid (((m.take i).foldl (forStep g) acc0).length ≤ 1000000):=Lib.hid (by have:=forFold_len g (m.take i) acc0;rw [List.length_take] at this;have:=HN.out;have:=HHl.out;omega)
      clear hr hg2 hx hi hlt htx HNe
      generalize (m.take i).foldl (forStep g) acc0 = acc at *
      generalize confB x g = cb at *
      cases cb
      case false =>
       go_upto_region 13 with (fail)
       clear cx0 b1
       refine wp_region_held_drew (S:=fun w'=>w'.rangeAt w.heap.size 0 (tbCells (.slice a l.length cap) (.slice (some ⟨g0, off, none⟩) m.length cap2)) ∧ w'.rangeAt g0 (off + i * 4) (grCells x) ∧ w'.rangeAt B5 0 (grCells g)) (by kernel_rfl) (⟨(fun j v hv=>by rw [Nat.zero_add];exact ((HY.out).drew).at 0 rfl j hv), (elem_rng (HRg.out _ ((HY.out).drew).old) HXi.out), (fun j v hv=>by rw [Nat.zero_add];exact ((HY.out).drew).at 1 rfl j hv)⟩) (fun hHeld=>?_)
       refine tk 0 qRfWt2_7 (some 57) (v:=?q101v) (Or.inl ⟨by rfl, ?q101h⟩) hHeld ?q101r
       case q101h=>(intro _ h;clear h;go_simp;try with_reducible rfl)
       try simp only [z0, z1, z2, z3]
       refine tk 1 qRfWt2_8 (some 58) (v:=.slice (some ⟨g0, off, none⟩) m.length cap2) (Or.inl ⟨by rfl, ?q102h⟩) hHeld ?q102r
       case q102h=>(intro wq hSw;have lq:=(hSw.1) 1 (.slice (some ⟨g0, off, none⟩) m.length cap2) rfl;simp only [Nat.zero_add] at lq;clear hSw;go_simp;try with_reducible rfl)
       try simp only [z0, z1, z2, z3]
       refine tk 2 qRfWt2_9 (some 59) (v:=?q103v) (Or.inl ⟨by rfl, ?q103h⟩) hHeld ?q103r
       case q103h=>(intro _ h;clear h;go_simp;try with_reducible rfl)
       try simp only [z0, z1, z2, z3]
       refine tk 3 qRfWt2_10 (some 60) (v:=?q104v) (Or.inl ⟨by rfl, ?q104h⟩) hHeld ?q104r
       case q104h=>(intro _ h;clear h;go_simp;try with_reducible rfl)
       try simp only [z0, z1, z2, z3]
       refine tk 4 qRfWt2_11 (some 61) (yieldsIf_load_mid (by rfl) 29 (.tmp 60) rfl g0 (off + i * 4) rfl (grCells x) _ (fun _ h=>h.2.1) HUG.out rfl (info_gr)) hHeld ?_
       try simp only [z0, z1, z2, z3]
       refine tk 5 qRfWt2_12 (some 62) (yieldsIf_load_mid (by rfl) 29 (.tmp 5) rfl B5 (0) rfl (grCells g) _ (fun _ h=>h.2.2) HUG.out rfl (info_gr)) hHeld ?_
       try simp only [z0, z1, z2, z3]
       refine tn 6 qRfWt2_13 (fun K hK=>?_)
       go_simp
       go_wp2_with (go_at_call 34;refine (HCf.out _).mono ?_;rintro e w31 ⟨rfl, hb⟩)
       have HS31 : Hid (Hp w [.ob (w.heap.size) 25 (tbCells (.slice a l.length cap) (.slice (some ⟨g0, off, none⟩) m.length cap2)), .ob B5 29 (grCells g), .rd R1] w31):=((HY.out).drew).calls hb
       refine hK.out _ _ (⟨(fun j v hv=>by rw [Nat.zero_add];exact (HS31.out).at 0 rfl j hv), (elem_rng (HRg.out _ (HS31.out).old) HXi.out), (fun j v hv=>by rw [Nat.zero_add];exact (HS31.out).at 1 rfl j hv)⟩) (fun hHeld=>?_)
       clear hK K hb
       try simp only [z0, z1, z2, z3]
       refine wpAnyH_done (by kernel_rfl) ?_ _
       go_wp2_with fail
       go_roundw
       case rel =>
        refine ⟨i + 1, R1, HLt.out, by go_num, HNe2.out, ?_, HS31.out⟩
        rw [HFo.out, if_neg (by decide)]
        exact HO.out
       case measure=>simp [intOf];try (have:=HLt.out;omega)
      case true =>
       go_upto_region 13 with (fail)
       clear cx0 b1
       refine wp_region_held_drew (S:=fun w'=>w'.rangeAt w.heap.size 0 (tbCells (.slice a l.length cap) (.slice (some ⟨g0, off, none⟩) m.length cap2)) ∧ w'.rangeAt g0 (off + i * 4) (grCells x) ∧ w'.rangeAt B5 0 (grCells g)) (by kernel_rfl) (⟨(fun j v hv=>by rw [Nat.zero_add];exact ((HY.out).drew).at 0 rfl j hv), (elem_rng (HRg.out _ ((HY.out).drew).old) HXi.out), (fun j v hv=>by rw [Nat.zero_add];exact ((HY.out).drew).at 1 rfl j hv)⟩) (fun hHeld=>?_)
       refine tk 0 qRfWt2_7 (some 57) (v:=?q151v) (Or.inl ⟨by rfl, ?q151h⟩) hHeld ?q151r
       case q151h=>(intro _ h;clear h;go_simp;try with_reducible rfl)
       try simp only [z0, z1, z2, z3]
       refine tk 1 qRfWt2_8 (some 58) (v:=.slice (some ⟨g0, off, none⟩) m.length cap2) (Or.inl ⟨by rfl, ?q152h⟩) hHeld ?q152r
       case q152h=>(intro wq hSw;have lq:=(hSw.1) 1 (.slice (some ⟨g0, off, none⟩) m.length cap2) rfl;simp only [Nat.zero_add] at lq;clear hSw;go_simp;try with_reducible rfl)
       try simp only [z0, z1, z2, z3]
       refine tk 2 qRfWt2_9 (some 59) (v:=?q153v) (Or.inl ⟨by rfl, ?q153h⟩) hHeld ?q153r
       case q153h=>(intro _ h;clear h;go_simp;try with_reducible rfl)
       try simp only [z0, z1, z2, z3]
       refine tk 3 qRfWt2_10 (some 60) (v:=?q154v) (Or.inl ⟨by rfl, ?q154h⟩) hHeld ?q154r
       case q154h=>(intro _ h;clear h;go_simp;try with_reducible rfl)
       try simp only [z0, z1, z2, z3]
       refine tk 4 qRfWt2_11 (some 61) (yieldsIf_load_mid (by rfl) 29 (.tmp 60) rfl g0 (off + i * 4) rfl (grCells x) _ (fun _ h=>h.2.1) HUG.out rfl (info_gr)) hHeld ?_
       try simp only [z0, z1, z2, z3]
       refine tk 5 qRfWt2_12 (some 62) (yieldsIf_load_mid (by rfl) 29 (.tmp 5) rfl B5 (0) rfl (grCells g) _ (fun _ h=>h.2.2) HUG.out rfl (info_gr)) hHeld ?_
       try simp only [z0, z1, z2, z3]
       refine tn 6 qRfWt2_13 (fun K hK=>?_)
       go_simp
       go_wp2_with (go_at_call 34;refine (HCf.out _).mono ?_;rintro e w31 ⟨rfl, hb⟩)
       have HS31 : Hid (Hp w [.ob (w.heap.size) 25 (tbCells (.slice a l.length cap) (.slice (some ⟨g0, off, none⟩) m.length cap2)), .ob B5 29 (grCells g), .rd R1] w31):=((HY.out).drew).calls hb
       refine hK.out _ _ (⟨(fun j v hv=>by rw [Nat.zero_add];exact (HS31.out).at 0 rfl j hv), (elem_rng (HRg.out _ (HS31.out).old) HXi.out), (fun j v hv=>by rw [Nat.zero_add];exact (HS31.out).at 1 rfl j hv)⟩) (fun hHeld=>?_)
       clear hK K hb
       try simp only [z0, z1, z2, z3]
       refine wpAnyH_done (by kernel_rfl) ?_ _
       have b1 : w31.cell? ⟨w.heap.size, 1, none⟩ = some (.slice (some ⟨g0, off, none⟩) m.length cap2):=HS31.out.at 0 rfl 1 rfl
       have cx0 : w31.cell? ⟨g0, off + i * 4, none⟩ = some (.int .i64 x.tx):=HRg.out _ HS31.out.old (i * 4 + 0) _ (grRow_at m i x HXi.out 0 _ rfl)
       go_wp2_with fail
       refine (rwtwith_any acc x.tx u7 R1 _ HO.out.1 (HS31.out.reads 2 rfl) HFl.out).mono ?_
       rintro e w90 ⟨ov2, R2, rfl, hrd2, hin2, hnew2, hb⟩
       have HN90:=Lib.hid (IntNew.later HS31.out.old hrd2 hnew2)
       have HS90:=Lib.hid (HS31.out.addrd hb R2 hin2 (fun r hr=>.inl (hnew2 r hr)))
       have HS91 : Hid (Hp w [.ob w.heap.size 25 (tbCells (.slice a l.length cap) (.slice (some ⟨g0, off, none⟩) m.length cap2)), .ob B5 29 (grCells g), .rd R2] w90):=HS90.out.pull [0, 1, 3] rfl (pull_nd HS90.out.nd [0, 1, 3] rfl (by decide))
       clear HS90 hb hin2 hnew2 hrd2 b1 cx0 HS31
       go_wp2_with fail
       go_roundw
       case rel =>
        refine ⟨i + 1, R2, HLt.out, by go_num, HNe2.out, ?_, HS91.out⟩
        first | rw [HFo.out, if_pos trivial] | rw [HFo.out, if_pos rfl]
        exact HN90.out
       case measure=>simp [intOf];try (have:=HLt.out;omega)
    ·obtain rfl : i = m.length:=by omega
     have HE : Hid (res = (m.take m.length).foldl (forStep g) acc0):=Lib.hid (by rw [HR0.out, while_end HNe.out (.inl rfl)])
     clear hlt hi HNe
     go_wp2_with fail
     go_ret
     rw [HE.out]
     exact HO.out.hand (HY.out.reads 2 rfl) HY.out.old
end Go.Proofs.Ytooaldglgkjjgaa
/- the program's conflict and what finds who waits (waits) -/
namespace Go.Proofs.Ytooaldglgkjjgaa
open Go.RowKit
set_option maxRecDepth 20000
set_option linter.unusedSimpArgs false
set_option linter.unusedVariables false

set_option maxHeartbeats 4000000 in
theorem wconflict_any (a b : Gr) (w : World) (ha : GoodGr a) (hb : GoodGr b) : Calls Try.prog 61 #[.agg (grCells a).toArray, .agg (grCells b).toArray] w fun e w'=>e = .returned (.bool (confB a b)) ∧ Below w.heap.size w w':=by
  have HB : Hid (∀ cs ds, Below w.heap.size w ((w.alloc (.cells cs 29)).alloc (.cells ds 29))):=fun cs ds=>((Below.refl _ _).alloc (Nat.le_refl _) _).alloc (by simp) _
  have hq : ∀ W, Sem.run Try.prog (binOp .eql 27 (.agg #[.int .i64 a.page, .int .i64 a.slot]) (.agg #[.int .i64 b.page, .int .i64 b.slot])) W = .ok (.bool (sameV a.lock b.lock)) W:=fun W=>run_eql (equal_lk a.lock b.lock ha.lock hb.lock) W
  have hs : sameV a.lock b.lock = (decide (a.page = b.page) && decide (a.slot = b.slot)):=by
    rw [Bool.eq_iff_iff, sameV_iff, Bool.and_eq_true, decide_eq_true_eq, decide_eq_true_eq]
    exact ⟨fun h=>⟨congrArg Lok.page h, congrArg Lok.slot h⟩, fun h=>by show Lok.mk _ _ = Lok.mk _ _;rw [h.1, h.2]⟩
  clear ha hb
  unfold grCells
  generalize sameV a.lock b.lock = q at *
  by_cases h1 : a.tx = b.tx
  · obtain ⟨e1, n1⟩:=eq_facts h1
    have HV : Hid (confB a b = false):=Lib.hid (by unfold confB;simp [h1])
    clear h1 hs
    go_enter Try.func61, Try.ntmps61
    go_wp2
    go_ret
    exact ⟨ret_bool (by rw [HV.out]), HB.out _ _⟩
  · obtain ⟨e1, n1⟩:=ne_facts h1
    cases q
    · have HV : Hid (confB a b = false):=Lib.hid (by unfold confB;have:=hs.symm;simp only [Bool.and_eq_false_iff, decide_eq_false_iff_not] at this;rcases this with h | h <;> simp [h])
      clear h1 hs
      go_enter Try.func61, Try.ntmps61
      go_wp2
      go_ret
      exact ⟨ret_bool (by rw [HV.out]), HB.out _ _⟩
    · have hs2:=hs.symm
      simp only [Bool.and_eq_true, decide_eq_true_eq] at hs2
      by_cases h2 : a.mode = 2
      · obtain ⟨e2, n2⟩:=eq_facts h2
        have HV : Hid (confB a b = true):=Lib.hid (by unfold confB;simp [h1, hs2.1, hs2.2, h2])
        clear h1 hs hs2 h2
        go_enter Try.func61, Try.ntmps61
        go_wp2
        go_ret
        exact ⟨ret_bool (by rw [HV.out]), HB.out _ _⟩
      · obtain ⟨e2, n2⟩:=ne_facts h2
        have HV : Hid (confB a b = (b.mode == 2)):=Lib.hid (by unfold confB;simp [h1, hs2.1, hs2.2, h2, beq_dec'])
        clear h1 hs hs2 h2
        go_enter Try.func61, Try.ntmps61
        go_wp2
        go_ret
        exact ⟨ret_bool (by rw [HV.out]), HB.out _ _⟩
theorem eg_aw : EntersF 60:=enters_of Try.func60 (by kernel_rfl) rfl
set_option maxHeartbeats 4000000 in
theorem aw_at (tx : Int) (b : Nat) (l : List Gr) : GrAt 60 #[.pointer (some ⟨b, 0, none⟩)] (fun x=>decide (x.tx = tx)) l [(b, 0, [.int .i64 tx])]:=by
  intro W x hx hR
  have hb:=hR _ (List.mem_singleton.2 rfl)
  have c0 : W.cell? ⟨b, 0, none⟩ = some (.int .i64 tx):=hb.2 0 _ rfl
  have HV : Hid ((x.tx == tx) = decide (x.tx = tx)):=beq_dec' _ _
  have HLtb : Hid (b < W.heap.size):=(by have:=hb.1;exact this)
  have h1:=(Hp.start W).put 29 (grCells x)
  have HS0 : Hid (Hp W [.ob W.heap.size 29 (grCells x)] (W.alloc (.cells #[.int .i64 x.tx, .int .i64 x.page, .int .i64 x.slot, .int .i64 x.mode] 29))):=h1
  clear h1
  clear hR hb
  show Calls Try.prog 60 #[.agg #[.int .i64 x.tx, .int .i64 x.page, .int .i64 x.slot, .int .i64 x.mode], .pointer (some ⟨b, 0, none⟩)] W _
  go_enter Try.func60, Try.ntmps60
  go_upto_region 1 with (fail)
  generalize (W.alloc (.cells #[.int .i64 x.tx, .int .i64 x.page, .int .i64 x.slot, .int .i64 x.mode] 29)) = w1 at *
  have x0 : w1.cell? ⟨W.heap.size, 0, none⟩ = some (.int .i64 x.tx):=HS0.out.at 0 rfl 0 rfl
  have x1 : w1.cell? ⟨W.heap.size, 1, none⟩ = some (.int .i64 x.page):=HS0.out.at 0 rfl 1 rfl
  have x2 : w1.cell? ⟨W.heap.size, 2, none⟩ = some (.int .i64 x.slot):=HS0.out.at 0 rfl 2 rfl
  have x3 : w1.cell? ⟨W.heap.size, 3, none⟩ = some (.int .i64 x.mode):=HS0.out.at 0 rfl 3 rfl
  have dc0:=(HS0.out.old.cell (p:=⟨b, 0, none⟩) HLtb.out).trans c0
  have HB:=Lib.hid HS0.out.old
  clear HS0 c0
  go_wp2
  go_ret
  exact ⟨ret_bool HV.out, HB.out⟩
/-- where one waits, and for whom then -/
theorem await_idx {t : Tb} {tx : Int} (h : tbOkB t = true) : (idxR (fun x : Gr=>decide (x.tx = tx)) t.wait = -1 ∧ forR t tx = []) ∨ ∃ (k : Nat) (x : Gr), k < t.wait.length ∧ t.wait[k]? = some x ∧ idxR (fun x : Gr=>decide (x.tx = tx)) t.wait = (k : Int) ∧ forR t tx = onceI (inWay x (t.held ++ t.wait.take k)):=by
  by_cases hi : idxR (fun x : Gr=>decide (x.tx = tx)) t.wait = -1
  · refine .inl ⟨hi, for_no ?_⟩
    unfold waitR
    rw [if_pos h, wfind_none_of (fun x hx=>by
      have:=List.all_eq_true.1 (idxR_neg hi) x hx
      simpa using this)]
    rfl
  · obtain ⟨k, hk, e, ha, hx⟩:=idxR_pos hi
    have hx' : t.wait[k].tx = tx:=by simpa using hx
    have hall : ∀ z ∈ t.wait.take k, z.tx ≠ tx:=fun z hz=>by
      have:=List.all_eq_true.1 ha z hz
      simpa using this
    have hw : wfind t.wait tx = some t.wait[k]:=wfind_first (fun q hq z hz=>by
      have hm : z ∈ t.wait.take k:=by
        obtain ⟨h1, rfl⟩:=List.getElem?_eq_some_iff.1 hz
        exact List.mem_take_iff_getElem.2 ⟨q, by omega, rfl⟩
      exact hall z hm) (List.getElem?_eq_getElem hk) hx'
    refine .inr ⟨k, t.wait[k], hk, List.getElem?_eq_getElem hk, e, ?_⟩
    refine (onceI_eq (asc_for t tx) fun b=>?_).symm
    have hwr : waitR t tx = (t.wait[k], true):=by unfold waitR;rw [if_pos h, hw];rfl
    unfold forR
    rw [hwr, if_pos (by rfl), while_end hall (.inr ⟨_, List.getElem?_eq_getElem hk, hx'⟩), mem_forFold, mem_forFold, inWay_append, List.mem_append, mem_inWay, mem_inWay]
    simp
end Go.Proofs.Ytooaldglgkjjgaa
/- the library's sort and its compaction at this program (the shelf's contracts, laid), for slices of one's own -/
namespace Go.Proofs
open Go.Shelf Go.RowKit Go.Lib Go.Sort
def Try.lays189_ren : Go.Shelf.Ren:=⟨fun | 189=>30 | 125=>58 | 257=>57 | 128=>88 | 129=>89 | 294=>79 | 295=>80 | 296=>81 | 297=>82 | 298=>83 | 299=>84 | 216=>85 | 300=>86 | 301=>87 | 328=>95 | 329=>96 | 330=>97 | 331=>98 | 332=>99 | 215=>100 | 343=>102 | n=>n, fun | 28=>38 | 3=>3 | 46=>81 | 0=>0 | 51=>105 | 53=>107 | 4=>4 | 183=>98 | 182=>97 | 131=>89 | 5=>5 | 9=>9 | 218=>111 | 222=>115 | 228=>119 | 229=>120 | n=>n, fun | n=>n⟩
theorem Try.lays189 : Go.Proofs.Lays.n189 Try.prog Try.lays189_ren:={
 mixed:=by kernel_rfl
 f125:=Try.func58.trans (congrArg some (by kernel_rfl))
 f128:=Try.func88.trans (congrArg some (by kernel_rfl))
 f129:=Try.func89.trans (congrArg some (by kernel_rfl))
 f189:=Try.func30.trans (congrArg some (by kernel_rfl))
 f215:=Try.func100.trans (congrArg some (by kernel_rfl))
 f216:=Try.func85.trans (congrArg some (by kernel_rfl))
 f257:=Try.func57.trans (congrArg some (by kernel_rfl))
 f294:=Try.func79.trans (congrArg some (by kernel_rfl))
 f295:=Try.func80.trans (congrArg some (by kernel_rfl))
 f296:=Try.func81.trans (congrArg some (by kernel_rfl))
 f297:=Try.func82.trans (congrArg some (by kernel_rfl))
 f298:=Try.func83.trans (congrArg some (by kernel_rfl))
 f299:=Try.func84.trans (congrArg some (by kernel_rfl))
 f300:=Try.func86.trans (congrArg some (by kernel_rfl))
 f301:=Try.func87.trans (congrArg some (by kernel_rfl))
 f328:=Try.func95.trans (congrArg some (by kernel_rfl))
 f329:=Try.func96.trans (congrArg some (by kernel_rfl))
 f330:=Try.func97.trans (congrArg some (by kernel_rfl))
 f331:=Try.func98.trans (congrArg some (by kernel_rfl))
 f332:=Try.func99.trans (congrArg some (by kernel_rfl))
 f343:=Try.func102.trans (congrArg some (by kernel_rfl))
 t0:=Try.underlying0
 a0:=Try.isAgg0
 z0:=Try.sizeOf0
 v0:=Try.zeroValue0
 t3:=Try.underlying3
 a3:=Try.isAgg3
 z3:=Try.sizeOf3
 v3:=Try.zeroValue3
 t4:=Try.underlying4
 a4:=Try.isAgg4
 z4:=Try.sizeOf4
 v4:=Try.zeroValue4
 t5:=Try.underlying5
 a5:=Try.isAgg5
 z5:=Try.sizeOf5
 v5:=Try.zeroValue5
 t9:=Try.underlying9
 a9:=Try.isAgg9
 z9:=Try.sizeOf9
 v9:=Try.zeroValue9
 t28:=Try.underlying38
 a28:=Try.isAgg38
 z28:=Try.sizeOf38
 v28:=Try.zeroValue38
 t46:=Try.underlying81
 a46:=Try.isAgg81
 z46:=Try.sizeOf81
 v46:=Try.zeroValue81
 t51:=Try.underlying105
 a51:=Try.isAgg105
 z51:=Try.sizeOf105
 v51:=Try.zeroValue105
 t53:=Try.underlying107
 a53:=Try.isAgg107
 z53:=Try.sizeOf107
 v53:=Try.zeroValue107
 t131:=Try.underlying89
 a131:=Try.isAgg89
 z131:=Try.sizeOf89
 v131:=Try.zeroValue89
 t182:=Try.underlying97
 a182:=Try.isAgg97
 z182:=Try.sizeOf97
 v182:=Try.zeroValue97
 t183:=Try.underlying98
 a183:=Try.isAgg98
 z183:=Try.sizeOf98
 v183:=Try.zeroValue98
 t218:=Try.underlying111
 a218:=Try.isAgg111
 z218:=Try.sizeOf111
 v218:=Try.zeroValue111
 t222:=Try.underlying115
 a222:=Try.isAgg115
 z222:=Try.sizeOf115
 v222:=Try.zeroValue115
 t228:=Try.underlying119
 a228:=Try.isAgg119
 z228:=Try.sizeOf119
 v228:=Try.zeroValue119
 t229:=Try.underlying120
 a229:=Try.isAgg120
 z229:=Try.sizeOf120
 v229:=Try.zeroValue120 }
theorem Try.slices_Sort_int (blk off cap : Nat) (zs : List Int) (w : World) (hH : Holds (Value.int .i64) w blk off zs.toArray) (hblk : blk < w.heap.size) (hsz : zs.length < 4611686018427387904) :
  Calls Try.prog 30 #[.slice (some ⟨blk, off, none⟩) zs.length cap] w fun e w' =>
   e = .returned (.tuple #[]) ∧ ∃ n os, w' = grow (putRow (Value.int .i64) (Sort.ahead w n) blk off (zs.mergeSort fun x y=>decide (x ≤ y)).toArray) os:=Any.slices_Sort_int Try.lays189 blk off cap zs w hH hblk hsz
def Try.laysNm220_ren : Go.Shelf.Ren:=⟨fun | 20=>62 | n=>n, fun | 22=>38 | 3=>3 | 4=>4 | 0=>0 | n=>n, fun | n=>n⟩
theorem Try.laysNm220 : Go.Proofs.Lays2.n20 Try.prog Try.laysNm220_ren:={
 mixed:=by kernel_rfl
 f20:=Try.func62.trans (congrArg some (by kernel_rfl))
 t0:=Try.underlying0
 a0:=Try.isAgg0
 z0:=Try.sizeOf0
 v0:=Try.zeroValue0
 t3:=Try.underlying3
 a3:=Try.isAgg3
 z3:=Try.sizeOf3
 v3:=Try.zeroValue3
 t4:=Try.underlying4
 a4:=Try.isAgg4
 z4:=Try.sizeOf4
 v4:=Try.zeroValue4
 t22:=Try.underlying38
 a22:=Try.isAgg38
 z22:=Try.sizeOf38
 v22:=Try.zeroValue38
 i3:=by kernel_rfl }
theorem Try.slices_Compact_int (blk off cap : Nat) (zs : List Int) (w : World) (hH : Holds (Value.int .i64) w blk off zs.toArray) (hsz : zs.length ≤ 9223372036854775807) (hcap : zs.length ≤ cap) :
  Calls Try.prog 62 #[.slice (some ⟨blk, off, none⟩) zs.length cap] w fun e w'=>e = .returned (.slice (some ⟨blk, off, none⟩) (Lib.compact zs).length cap) ∧ ∃ q, w' = putRow (Value.int .i64) (Sort.ahead w q) blk off (Lib.compact zs ++ List.replicate (zs.length - (Lib.compact zs).length) 0).toArray:=Any.slices_Compact_int Try.laysNm220 blk off cap zs w hH hsz hcap
theorem Try.slices_Compact_int_empty (a : Option Addr) (cap : Nat) (w : World) :
  Calls Try.prog 62 #[.slice a 0 cap] w fun e w'=>e = .returned (.slice a 0 cap) ∧ w' = w:=Any.slices_Compact_int_empty Try.laysNm220 a cap w
theorem Try.slices_Sort_int_none (p : Option Addr) (cap : Nat) (w : World) :
  Calls Try.prog 30 #[.slice p 0 cap] w fun e w'=>e = .returned (.tuple #[]) ∧ w' = w:=Any.slices_Sort_int_none Try.lays189 p cap w
end Go.Proofs
namespace Go.Proofs.Ytooaldglgkjjgaa
open Go.RowKit
set_option maxRecDepth 20000

theorem own_kept {B : Nat} {W W' : World} {e : TypeId} {z n : Nat} {v : Value} {xs : List Value} (h : W.ownsRow B e z v n xs) (hk : ∀ b, v.ownBlock = some b → W'.heap[b]? = W.heap[b]?) : W'.ownsRow B e z v n xs:=by
 obtain ⟨h1, h2 | ⟨g, cap, cur, rfl, hB, hg, h3⟩⟩:=h
 ·exact ⟨h1, .inl h2⟩
 ·exact ⟨h1, .inr ⟨g, cap, cur, rfl, hB, (hk g rfl).trans hg, h3⟩⟩
theorem put_other (w : World) (g q : Nat) (d : Array Int) {k : Nat} (hk : k ≠ g) : (Go.Sort.putRow (Value.int .i64) (Sort.ahead w q) g 0 d).heap[k]? = w.heap[k]?:=by
 simp [Go.Sort.putRow, Go.Sort.mapBlock, Sort.ahead, Array.getElem?_modify, Ne.symm hk]
theorem put_size (w : World) (g q : Nat) (d : Array Int) : (Go.Sort.putRow (Value.int .i64) (Sort.ahead w q) g 0 d).heap.size = w.heap.size:=by
 simp [Go.Sort.putRow, Go.Sort.mapBlock, Sort.ahead]
theorem slice_nil_or (v : Value) : v = .slice none 0 0 ∨ v ≠ .slice none 0 0:=Classical.em _
/-- slices.Sort at a slice of one's own -/
theorem sort_own {w W : World} {L : List Th} (h : Hp w L W) (i : Nat) {v : Value} {l : List Int} (ei : L[i]? = some (.sl v 3 1 l.length (intRow l))) (hl : l.length ≤ 1000000) :
  Calls Try.prog 30 #[v] W fun e W'=>e = .returned (.tuple #[]) ∧ Hp w (L.set i (.sl v 3 1 (sortI l).length (intRow (sortI l)))) W':=by
 have ho:=h.own i ei
 have hsl : (sortI l).length = l.length:=sortI_len l
 rcases slice_nil_or v with rfl | hv
 ·have hn : l.length = 0:=by
   rcases ho.2 with ⟨_, h0⟩ | ⟨g, cap, cur, e, _⟩
   ·exact h0
   ·cases e
  obtain rfl:=List.eq_nil_of_length_eq_zero hn
  refine (Try.slices_Sort_int_none none 0 W).mono ?_
  rintro e w' ⟨rfl, rfl⟩
  refine ⟨rfl, ?_⟩
  have e0 : sortI [] = []:=List.eq_nil_of_length_eq_zero (sortI_len [])
  rw [e0]
  have : L.set i (.sl (.slice none 0 0) 3 1 ([] : List Int).length (intRow [])) = L:=by
   apply List.ext_getElem?
   intro j
   rw [List.getElem?_set]
   split
   ·next hij =>
    subst hij
    rw [ei]
    split
    ·rfl
    ·next hlt=>rw [List.getElem?_eq_none (by omega)] at ei;cases ei
   ·rfl
  rw [this]
  exact h
 ·obtain ⟨g, cap, rfl, hbg, hgl, hncap, hcm, hlen, hH⟩:=Lib.holds_of_ownsRow (enc:=Value.int .i64) (zs:=l) ho hv
  refine (Try.slices_Sort_int g 0 cap l W hH hgl (by omega)).mono ?_
  rintro e w' ⟨rfl, n, os, rfl⟩
  refine ⟨rfl, ?_⟩
  have h1:=Lib.ownsRow_putRow (q:=n) (k:=l.length) (ys:=sortI l) ho hsl (Nat.le_refl _)
  rw [List.take_of_length_le (by omega)] at h1
  have h2 : (Go.Sort.grow (Go.Sort.putRow (Value.int .i64) (Sort.ahead W n) g 0 (sortI l).toArray) os).ownsRow w.heap.size 3 1 (.slice (some ⟨g, 0, none⟩) l.length cap) l.length (intRow (sortI l)) :=
   own_kept h1 fun b hb=>by
    obtain rfl : g = b:=Option.some.inj hb
    exact Go.Sort.heap_grow_old _ _ (by rw [put_size];exact hgl)
  rw [hsl]
  refine h.grown i ei h2 ⟨rfl, rfl, rfl, ?_, fun k hk hne=>?_⟩ (.inl rfl)
  ·show W.heap.size ≤ (Go.Sort.grow (Go.Sort.putRow (Value.int .i64) (Sort.ahead W n) g 0 (sortI l).toArray) os).heap.size
   have : (Go.Sort.grow (Go.Sort.putRow (Value.int .i64) (Sort.ahead W n) g 0 (sortI l).toArray) os).heap.size = W.heap.size + os.size:=by
    show (_ ++ os).size = _
    rw [Array.size_append, put_size]
   omega
  ·have hkg : k ≠ g:=fun e=>hne (by rw [e];rfl)
   exact (Go.Sort.heap_grow_old _ _ (by rw [put_size];exact hk)).trans (put_other W g n _ hkg)
/-- slices.Compact at a slice of one's own -/
theorem compact_own {w W : World} {L : List Th} (h : Hp w L W) (i : Nat) {v : Value} {l : List Int} (ei : L[i]? = some (.sl v 3 1 l.length (intRow l))) (hl : l.length ≤ 1000000) :
  Calls Try.prog 62 #[v] W fun e W'=>∃ v', e = .returned v' ∧ Hp w (L.set i (.sl v' 3 1 (Lib.compact l).length (intRow (Lib.compact l)))) W':=by
 have ho:=h.own i ei
 rcases slice_nil_or v with rfl | hv
 ·have hn : l.length = 0:=by
   rcases ho.2 with ⟨_, h0⟩ | ⟨g, cap, cur, e, _⟩
   ·exact h0
   ·cases e
  obtain rfl:=List.eq_nil_of_length_eq_zero hn
  refine (Try.slices_Compact_int_empty none 0 W).mono ?_
  rintro e w' ⟨rfl, rfl⟩
  refine ⟨_, rfl, ?_⟩
  have e0 : Lib.compact ([] : List Int) = []:=rfl
  rw [e0]
  have : L.set i (.sl (.slice none 0 0) 3 1 ([] : List Int).length (intRow [])) = L:=by
   apply List.ext_getElem?
   intro j
   rw [List.getElem?_set]
   split
   ·next hij =>
    subst hij
    rw [ei]
    split
    ·rfl
    ·next hlt=>rw [List.getElem?_eq_none (by omega)] at ei;cases ei
   ·rfl
  rw [this]
  exact h
 ·obtain ⟨g, cap, rfl, hbg, hgl, hncap, hcm, hlen, hH⟩:=Lib.holds_of_ownsRow (enc:=Value.int .i64) (zs:=l) ho hv
  refine (Try.slices_Compact_int g 0 cap l W hH (by omega) hncap).mono ?_
  rintro e w' ⟨rfl, q, rfl⟩
  have hle:=Lib.compact_length_le l
  have h1:=Lib.ownsRow_putRow (q:=q) (k:=(Lib.compact l).length) (ys:=Lib.compact l ++ List.replicate (l.length - (Lib.compact l).length) 0) ho (by rw [List.length_append, List.length_replicate];omega) hle
  rw [List.take_left] at h1
  refine ⟨_, rfl, h.grown i ei h1 ⟨rfl, rfl, rfl, by rw [put_size];exact Nat.le_refl _, fun k hk hne=>put_other W g q _ fun e=>hne (by rw [e];rfl)⟩ (.inl rfl)⟩
end Go.Proofs.Ytooaldglgkjjgaa
/- the reference's Waiters and Ints of chapter 9 -/
namespace Go.Proofs.Ytooaldglgkjjgaa
open Go.RowKit
set_option maxRecDepth 20000
set_option linter.unusedSimpArgs false
set_option linter.unusedVariables false

theorem waitersFold_len : ∀ (l : List Gr) (o : List Int), (l.foldl (fun o x=>wtR o x.tx) o).length ≤ o.length + l.length
 | [], _=>Nat.le_refl _
 | x :: l, o=>by
  rw [List.foldl_cons]
  refine Nat.le_trans (waitersFold_len l _) ?_
  have:=wtR_len o x.tx
  rw [List.length_cons];omega
theorem for_len {t : Tb} (hg : GoodTb t) (tx : Int) : (forR t tx).length ≤ 1000000:=by
 unfold forR
 split
 ·have h1:=forFold_len (waitR t tx).1 (t.wait.takeWhile (fun x=>!decide (x.tx = tx))) (t.held.foldl (forStep (waitR t tx).1) [])
  have h2:=forFold_len (waitR t tx).1 t.held []
  have h3:=(List.takeWhile_sublist (fun x : Gr=>!decide (x.tx = tx)) (l:=t.wait)).length_le
  have h4:=hg.few
  simp only [List.length_nil] at h2
  omega
 ·exact Nat.zero_le _
set_option maxHeartbeats 8000000 in
theorem rwaiters_any {h v : Value} {t : Tb} {R : List Rng} (w : World) (ht : TbRd h v t R) (hR : RdIn w R) (hg : GoodTb t) :
  Calls Try.prog 32 #[.agg (tbCells h v).toArray] w (IntsPost w (waitersR t)):=by
 have HVa : Hid (∀ W, Below w.heap.size w W → Calls Try.prog 25 #[.agg (tbCells h v).toArray] W fun e w'=>e = .returned (.bool (tbOkB t)) ∧ Below W.heap.size W w'):=fun W hb=>rlkvalid_any W ht (hR.below hb) hg
 have HF : Hid (waitersR t = if tbOkB t = true then t.wait.foldl (fun o x=>wtR o x.tx) [] else []):=rfl
 obtain ⟨a, cap, rfl, hnc, hcm, hg0⟩:=SlRd.open ht.1 hR
 obtain ⟨a2, cap2, rfl, hnc2, hcm2, hg2⟩:=SlRd.open ht.2 hR
 have HGw:=Lib.hid hg.wait
 have hfew:=hg.few
 clear ht hR hg hg0
 generalize waitersR t = res at *
 generalize tbOkB t = ok at *
 generalize t.held = l at *
 generalize t.wait = m at *
 have HN : Hid (l.length ≤ 100000 ∧ m.length ≤ 100000):=Lib.hid (by omega)
 have hn1 : (l.length : Int) ≤ 100000:=by omega
 have hm1 : (m.length : Int) ≤ 100000:=by omega
 clear hfew
 have h1:=(Hp.start w).put 25 (tbCells (.slice a l.length cap) (.slice a2 m.length cap2))
 simp only [List.nil_append] at h1
 have HS0 : Hid (Hp w [.ob w.heap.size 25 (tbCells (.slice a l.length cap) (.slice a2 m.length cap2))] (w.alloc (.cells (tbCells (.slice a l.length cap) (.slice a2 m.length cap2)).toArray 25))):=h1
 clear h1
 obtain ⟨fsHUG, huHUG⟩:=under_gr
 have HUG:=Lib.hid huHUG
 clear huHUG
 obtain ⟨fsHUK, huHUK⟩:=under_lk
 have HUK:=Lib.hid huHUK
 clear huHUK
 obtain ⟨fsHUT, huHUT⟩:=under_tb
 have HUT:=Lib.hid huHUT
 clear huHUT
 go_enter Try.func32, Try.ntmps32
 go_upto_region 1 with (fail)
 generalize (w.alloc (.cells (tbCells (.slice a l.length cap) (.slice a2 m.length cap2)).toArray 25)) = w1 at *
 go_upto_region 2 with (fail)
 go_wp2_with (first | ((with_reducible refine wpList_load_ob 25 (.tmp 1) (w.heap.size) (tbCells (.slice a l.length cap) (.slice a2 m.length cap2)) 25 HUT.out ?_ ?_ ?_ ?_ ?_);(exact rfl);(exact (HS0.out).get 0 rfl);(exact rfl);(exact info_tb);simp only [Act.put, List.setIfInBounds_toArray, List.set_cons_zero, List.set_cons_succ]))
 refine (HVa.out _ (HS0.out).old).mono ?_
 rintro e w21 ⟨rfl, hb⟩
 have HS21 : Hid (Hp w [.ob (w.heap.size) 25 (tbCells (.slice a l.length cap) (.slice a2 m.length cap2))] w21):=(HS0.out).calls hb
 clear hb
 clear HS0
 cases ok
 ·go_wp2_with fail
  go_ret
  rw [HF.out, if_neg (by decide)]
  exact int_none HS21.out.old
 generalize w21 = w5 at *
 have HS5 : Hid (Hp w [.ob w.heap.size 25 (tbCells (.slice a l.length cap) (.slice a2 m.length cap2)), .rd []] w5):=HS21.out.addrd (Below.refl _ _) [] (RdIn.nil _) (by simp)
 clear HS21 HVa
 go_wp2_with fail
 go_loopw [3, 4] (fun ov iv wr=>∃ (i : Nat) (R : List Rng), i ≤ m.length ∧ iv = .int .i64 i ∧ IntNew w ov ((m.take i).foldl (fun o x=>wtR o x.tx) []) R ∧ Hp w [.ob w.heap.size 25 (tbCells (.slice a l.length cap) (.slice a2 m.length cap2)), .rd R] wr) (fun _ iv _=>m.length - (intOf iv).toNat)
 case atStart=>exact ⟨0, [], by omega, rfl, IntNew.nil _, HS5.out⟩
 case round =>
  clear HS5
  obtain ⟨i, R1, hi, rfl, hrd, hs⟩:=hrel
  have HO:=Lib.hid hrd
  have HY:=Lib.hid hs
  clear hs hrd
  have b1 : wr.cell? ⟨w.heap.size, 1, none⟩ = some (.slice a2 m.length cap2):=HY.out.at 0 rfl 1 rfl
  by_cases hlt : i < m.length
  ·obtain ⟨g0, off, rfl, hr⟩:=hg2.out (by omega)
   have HRg:=Lib.hid hr
   obtain ⟨x, hx⟩ : ∃ x, m[i]? = some x:=⟨_, List.getElem?_eq_getElem hlt⟩
   have HXi:=Lib.hid hx
   have hii : (i : Int) < (m.length : Int):=by omega
   have hi0 : (0 : Int) ≤ (i : Int):=by omega
   have HLt:=Lib.hid hlt
   have cx0 : wr.cell? ⟨g0, off + i * 4, none⟩ = some (.int .i64 x.tx):=HRg.out wr HY.out.old (i * 4 + 0) _ (grRow_at m i x HXi.out 0 _ rfl)
   have HFo : Hid ((m.take (i + 1)).foldl (fun o x=>wtR o x.tx) [] = wtR ((m.take i).foldl (fun o x=>wtR o x.tx) []) x.tx):=fold_next [] hx
   have HFl : Hid (((m.take i).foldl (fun o x=>wtR o x.tx) []).length ≤ 1000000):=Lib.hid (by have:=waitersFold_len (m.take i) [];rw [List.length_take] at this;have:=HN.out;simp only [List.length_nil] at *;omega)
   clear hr hg2 hx hi hlt
   generalize (m.take i).foldl (fun o x=>wtR o x.tx) [] = acc at *
   go_wp2_with fail
   refine (rwtwith_any acc x.tx u3 R1 _ HO.out.1 (HY.out.reads 1 rfl) HFl.out).mono ?_
   rintro e w90 ⟨ov2, R2, rfl, hrd2, hin2, hnew2, hb⟩
   have HN90:=Lib.hid (IntNew.later HY.out.old hrd2 hnew2)
   have HS90:=Lib.hid (HY.out.addrd hb R2 hin2 (fun r hr=>.inl (hnew2 r hr)))
   have HS91 : Hid (Hp w [.ob w.heap.size 25 (tbCells (.slice a l.length cap) (.slice (some ⟨g0, off, none⟩) m.length cap2)), .rd R2] w90):=HS90.out.pull [0, 2] rfl (pull_nd HS90.out.nd [0, 2] rfl (by decide))
   clear HS90 hb hin2 hnew2 hrd2 b1 cx0 HY
   go_wp2_with fail
   go_roundw
   case rel =>
    refine ⟨i + 1, R2, HLt.out, by go_num, ?_, HS91.out⟩
    rw [HFo.out]
    exact HN90.out
   case measure=>simp [intOf];try (have:=HLt.out;omega)
  ·obtain rfl : i = m.length:=by omega
   have HE : Hid (res = (m.take m.length).foldl (fun o x=>wtR o x.tx) []):=Lib.hid (by rw [HF.out, List.take_length];simp)
   clear hlt hi
   go_wp2_with fail
   go_ret
   rw [HE.out]
   exact HO.out.hand (HY.out.reads 1 rfl) HY.out.old
set_option maxHeartbeats 8000000 in
theorem rInts_same {v u : Value} {l : List Int} {R R' : List Rng} (w : World) (hv : IntRd v l R) (hR : RdIn w R) (hu : IntRd u l R') (hR' : RdIn w R') (hl : l.length ≤ 1000000) :
  Calls Try.prog 11 #[v, u] w fun e w'=>e = .returned (.bool true) ∧ Below w.heap.size w w':=by
 obtain ⟨a, cap, rfl, hnc, hcm, hg0⟩:=SlRd.open hv hR
 obtain ⟨a2, cap2, rfl, hnc2, hcm2, hg2⟩:=SlRd.open hu hR'
 have HL:=Lib.hid hl
 have hlI : (l.length : Int) ≤ 1000000:=by omega
 clear hv hu hR hR' hl
 have HS0:=Lib.hid (Below.refl w.heap.size w)
 go_enter Try.func11, Try.ntmps11
 go_wp2_with fail
 go_loopw [5] (fun iv wr=>∃ i : Nat, i ≤ l.length ∧ iv = .int .i64 i ∧ Below w.heap.size w wr) (fun iv _=>l.length - (intOf iv).toNat)
 case atStart=>exact ⟨0, by omega, rfl, HS0.out⟩
 case round =>
  clear HS0
  obtain ⟨i, hi, rfl, hs⟩:=hrel
  have HY:=Lib.hid hs
  clear hs
  by_cases hlt : i < l.length
  ·obtain ⟨g0, off, rfl, hr⟩:=hg0.out (by omega)
   obtain ⟨g1, off1, rfl, hr1⟩:=hg2.out (by omega)
   have hii : (i : Int) < (l.length : Int):=by omega
   have hi0 : (0 : Int) ≤ (i : Int):=by omega
   have HLt:=Lib.hid hlt
   have c0 : wr.cell? ⟨g0, off + i, none⟩ = some (.int .i64 l[i]):=hr wr HY.out i _ (intRow_at l i hlt)
   have c1 : wr.cell? ⟨g1, off1 + i, none⟩ = some (.int .i64 l[i]):=hr1 wr HY.out i _ (intRow_at l i hlt)
   clear hr hr1 hg0 hg2
   generalize l[i] = y at *
   have hyy : (y != y) = false:=by simp
   clear hi hlt
   go_wp2_with fail
   go_quiet (fail)
   have HY2 : Hid (Below w.heap.size w (wr.drewN nq)):=Lib.hid ⟨HY.out.os, HY.out.tape, HY.out.output, HY.out.size, HY.out.block⟩
   clear HY c0 c1
   generalize wr.drewN nq = w2 at *
   go_wp2_with fail
   go_roundw
   case rel=>exact ⟨i + 1, HLt.out, by go_num, HY2.out⟩
   case measure=>simp [intOf];try (have:=HLt.out;omega)
  ·obtain rfl : i = l.length:=by omega
   clear hlt hi
   go_wp2_with fail
   go_ret
   exact ⟨rfl, HY.out⟩
end Go.Proofs.Ytooaldglgkjjgaa
