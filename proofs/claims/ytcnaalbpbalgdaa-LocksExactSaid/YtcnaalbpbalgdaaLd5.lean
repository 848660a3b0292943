/- texts of a claim, one after the other: the library's searches through grants, by whatever function that reads, and in the order of what is held; what the program makes of them (locks), the program's place, mode, holders, upgrade (locks), the program's size and validHeld (locks), a set of numbers in a map that the walk has made: which numbers it has, the program's validWaiting (locks), the program's Valid, Mode, Waiting (locks), what the program makes to find grants; what a transaction waits for; where a request goes (locks), the program's waiting and Waiting (locks), the program's Waiting and turn (locks), rows of whole elements that are written in place, the library's DeleteFunc over grants, the library's copy of grants, the library's Insert of one grant, the library's Insert of one grant, where there is no room -/
import Derived.Test.YtcnaalbpbalgdaaLd1
import Derived.Test.YtcnaalbpbalgdaaLd4
import Derived.Maps.Own
import Derived.Maps.OwnSet
import Derived.Deep.CutBlock
import Derived.Lib.SliceRun
import Derived.WalkSpells
import Derived.Lib.AppendZerosOnto
import Derived.Lib.Overlaps
import Derived.Maps.AppendAt
import Derived.Laws.CopyRow
/- the library's searches through grants, by whatever function that reads, and in the order of what is held; what the program makes of them (locks) -/
namespace Go.Proofs.Ytcnaalbpbalgdaa
open Go.RowKit
open Go.Act renaming put → z0
open List renaming setIfInBounds_toArray → z1, set_cons_zero → z2, set_cons_succ → z3
set_option maxRecDepth 20000
set_option linter.unusedSimpArgs false
set_option linter.unusedVariables false

/-- where the first one is, or -1 -/
def idxR {α : Type} (p : α → Bool) (l : List α) : Int := match l.findIdx? p with | some i => (i : Int) | none => -1
theorem idxR_none {α : Type} {p : α → Bool} {l : List α} (h : l.all (fun x => !p x) = true) : idxR p l = -1 := by
 unfold idxR
 have : l.findIdx? p = none := by
  rw [List.findIdx?_eq_none_iff]
  intro x hx
  have := (List.all_eq_true.1 h) x hx
  simpa using this
 rw [this]
theorem idxR_some {α : Type} {p : α → Bool} {l : List α} {k : Nat} (h : k < l.length) (hb : (l.take k).all (fun x => !p x) = true) (hx : p l[k] = true) : idxR p l = (k : Int) := by
 unfold idxR
 have : l.findIdx? p = some k := by
  rw [List.findIdx?_eq_some_iff_getElem]
  refine ⟨h, hx, fun j hj => ?_⟩
  have h1 : l[j] ∈ l.take k := by
   rw [List.mem_take_iff_getElem]
   exact ⟨j, by omega, rfl⟩
  have := (List.all_eq_true.1 hb) _ h1
  simpa using this
 rw [this]
abbrev qPk3_0 : Oper := { dst := some 24, op := Op.move (Operand.tmp 2), type := 68, pos := "sort.go:160", after := #[], guard := none }
abbrev qPk3_1 : Oper := { dst := some 25, op := Op.move (Operand.tmp 0), type := 23, pos := "sort.go:160", after := #[], guard := none }
abbrev qPk3_2 : Oper := { dst := some 26, op := Op.move (Operand.tmp 11), type := 3, pos := "sort.go:160", after := #[], guard := none }
abbrev qPk3_3 : Oper := { dst := some 27, op := Op.indexAddr 23 (Operand.tmp 25) (Operand.tmp 26), type := 0, pos := "sort.go:160", after := #[{ on := 1, ground := Ground.data }, { on := 2, ground := Ground.data }], guard := none }
abbrev qPk3_4 : Oper := { dst := some 28, op := Op.load 29 (Operand.tmp 27), type := 29, pos := "sort.go:160", after := #[{ on := 3, ground := Ground.data }], guard := none }
abbrev qPk3_5 : Oper := { dst := some 29, op := Op.load 29 (Operand.tmp 4), type := 29, pos := "sort.go:160", after := #[], guard := none }
abbrev qPk3_6 : Oper := { dst := some 30, op := Op.call { callee := Callee.value (Operand.tmp 24), args := #[Operand.tmp 28, Operand.tmp 29], argTypes := #[29, 29] }, type := 3, pos := "sort.go:160", after := #[{ on := 0, ground := Ground.data }, { on := 4, ground := Ground.data }, { on := 5, ground := Ground.data }], guard := none }
abbrev qPk3_7 : Oper := { dst := some 31, op := Op.binOp BinOp.lss 3 (Operand.tmp 30) (Operand.const (Value.int IntKind.i64 0)) 3, type := 4, pos := "sort.go:160", after := #[{ on := 6, ground := Ground.data }], guard := none }
abbrev qPk3_8 : Oper := { dst := some 35, op := Op.move (Operand.tmp 9), type := 3, pos := "sort.go:167", after := #[], guard := none }
abbrev qPk3_9 : Oper := { dst := some 36, op := Op.move (Operand.tmp 9), type := 3, pos := "sort.go:167", after := #[], guard := none }
abbrev qPk3_10 : Oper := { dst := some 37, op := Op.move (Operand.tmp 8), type := 3, pos := "sort.go:167", after := #[], guard := none }
abbrev qPk3_11 : Oper := { dst := some 38, op := Op.binOp BinOp.lss 3 (Operand.tmp 36) (Operand.tmp 37) 3, type := 4, pos := "sort.go:167", after := #[{ on := 1, ground := Ground.data }, { on := 2, ground := Ground.data }], guard := none }
abbrev qPk3_12 : Oper := { dst := some 39, op := Op.move (Operand.tmp 38), type := 4, pos := "sort.go:167", after := #[{ on := 3, ground := Ground.data }], guard := none }
abbrev qPk3_13 : Oper := { dst := some 40, op := Op.move (Operand.tmp 2), type := 68, pos := "sort.go:167", after := #[{ on := 4, ground := Ground.guard }], guard := some (4, true) }
abbrev qPk3_14 : Oper := { dst := some 41, op := Op.move (Operand.tmp 0), type := 23, pos := "sort.go:167", after := #[{ on := 4, ground := Ground.guard }], guard := some (4, true) }
abbrev qPk3_15 : Oper := { dst := some 42, op := Op.move (Operand.tmp 9), type := 3, pos := "sort.go:167", after := #[{ on := 4, ground := Ground.guard }], guard := some (4, true) }
abbrev qPk3_16 : Oper := { dst := some 43, op := Op.indexAddr 23 (Operand.tmp 41) (Operand.tmp 42), type := 0, pos := "sort.go:167", after := #[{ on := 6, ground := Ground.data }, { on := 7, ground := Ground.data }, { on := 4, ground := Ground.guard }], guard := some (4, true) }
abbrev qPk3_17 : Oper := { dst := some 44, op := Op.load 29 (Operand.tmp 43), type := 29, pos := "sort.go:167", after := #[{ on := 8, ground := Ground.data }, { on := 4, ground := Ground.guard }], guard := some (4, true) }
abbrev qPk3_18 : Oper := { dst := some 45, op := Op.load 29 (Operand.tmp 4), type := 29, pos := "sort.go:167", after := #[{ on := 4, ground := Ground.guard }], guard := some (4, true) }
abbrev qPk3_19 : Oper := { dst := some 46, op := Op.call { callee := Callee.value (Operand.tmp 40), args := #[Operand.tmp 44, Operand.tmp 45], argTypes := #[29, 29] }, type := 3, pos := "sort.go:167", after := #[{ on := 5, ground := Ground.data }, { on := 9, ground := Ground.data }, { on := 10, ground := Ground.data }, { on := 4, ground := Ground.chain }, { on := 4, ground := Ground.guard }], guard := some (4, true) }
abbrev qPk3_20 : Oper := { dst := some 47, op := Op.binOp BinOp.eql 3 (Operand.tmp 46) (Operand.const (Value.int IntKind.i64 0)) 3, type := 4, pos := "sort.go:167", after := #[{ on := 11, ground := Ground.data }, { on := 4, ground := Ground.guard }, { on := 14, ground := Ground.gcOnly Departure.lateStores }], guard := some (4, true) }
abbrev qPk3_21 : Oper := { dst := some 48, op := Op.pick (Operand.tmp 39) (Operand.tmp 47) (Operand.const (Value.bool false)), type := 4, pos := "sort.go:167", after := #[{ on := 4, ground := Ground.data }, { on := 12, ground := Ground.data }, { on := 14, ground := Ground.gcOnly Departure.lateStores }], guard := none }
abbrev qPk3_22 : Oper := { dst := some 6, op := Op.assign (Operand.tmp 35), type := 3, pos := "sort.go:167", after := #[{ on := 0, ground := Ground.data }, { on := 11, ground := Ground.chain }, { on := 0, ground := Ground.phase }, { on := 1, ground := Ground.textOnly Departure.lateStores }, { on := 2, ground := Ground.textOnly Departure.lateStores }, { on := 3, ground := Ground.textOnly Departure.lateStores }, { on := 4, ground := Ground.textOnly Departure.lateStores }, { on := 5, ground := Ground.textOnly Departure.lateStores }, { on := 6, ground := Ground.textOnly Departure.lateStores }, { on := 7, ground := Ground.textOnly Departure.lateStores }, { on := 8, ground := Ground.textOnly Departure.lateStores }, { on := 9, ground := Ground.textOnly Departure.lateStores }, { on := 10, ground := Ground.textOnly Departure.lateStores }, { on := 11, ground := Ground.textOnly Departure.lateStoresUnsure }, { on := 12, ground := Ground.textOnly Departure.lateStores }, { on := 13, ground := Ground.textOnly Departure.lateStores }], guard := none }
abbrev qPk3_23 : Oper := { dst := some 7, op := Op.assign (Operand.tmp 48), type := 4, pos := "sort.go:167", after := #[{ on := 13, ground := Ground.data }, { on := 14, ground := Ground.chain }, { on := 0, ground := Ground.phase }, { on := 1, ground := Ground.phase }, { on := 2, ground := Ground.phase }, { on := 3, ground := Ground.phase }, { on := 4, ground := Ground.phase }, { on := 5, ground := Ground.phase }, { on := 6, ground := Ground.phase }, { on := 7, ground := Ground.phase }, { on := 8, ground := Ground.phase }, { on := 9, ground := Ground.phase }, { on := 10, ground := Ground.phase }, { on := 11, ground := Ground.phase }, { on := 12, ground := Ground.phase }, { on := 13, ground := Ground.phase }, { on := 14, ground := Ground.phase }], guard := none }
set_option maxHeartbeats 4000000 in
theorem idxGr_any (g : Nat) (lb : Array Value) (q : Gr → Bool) (l : List Gr) (v : Value) (R : List Rng) (w : World) (eg : EntersF g) (hp : GrFn g lb q l w) (hv : GrRd v l R) (hR : RdIn w R) (hl : l.length ≤ 200000) :
  Calls Try.prog 55 #[v, .func (.func g) #[] lb] w fun e w' => e = .returned (.int .i64 (idxR q l)) ∧ Below w.heap.size w w' := by
 obtain ⟨a, cap, rfl, hnc, hcm, hg⟩ := SlRd.open hv hR
 obtain ⟨fs, huf⟩ := under_gr
 have HUF := Lib.hid huf
 have HC : Hid (l.length ≤ cap ∧ cap ≤ maxLen) := ⟨hnc, hcm⟩
 have HL := Lib.hid hl
 have HP := Lib.hid hp
 clear hv hR hnc hcm hl huf hp
 unfold EntersF at eg
 go_enter Try.func55, Try.ntmps55
 go_wp2_with fail
 go_loopw [8] (fun i wr => ∃ k : Nat, k ≤ l.length ∧ i = .int .i64 k ∧ (l.take k).all (fun x => !q x) = true ∧ Below w.heap.size w wr) (fun i _ => l.length - (intOf i).toNat)
 case atStart => exact ⟨0, by omega, rfl, rfl, Below.refl _ _⟩
 case round =>
  obtain ⟨k, hk, rfl, hh, hb⟩ := hrel
  have HB := Lib.hid hb
  have HH := Lib.hid hh
  clear hb hh
  by_cases hlt : k < l.length
  ·obtain ⟨b, off, rfl, hr⟩ := hg.out (by omega)
   obtain ⟨x, hx⟩ : ∃ x, l[k] = x := ⟨_, rfl⟩
   have hcells : Hid (wr.rangeAt b (off + k * 4) (grCells x)) := fun j u hj => by
    rw [Nat.add_assoc]
    exact hr wr HB.out (k * 4 + j) u (grRow_at l k x (by rw [List.getElem?_eq_getElem hlt, hx]) j u hj)
   have hki : (k : Int) < (l.length : Int) := by omega
   have hk0 : (0 : Int) ≤ (k : Int) := by omega
   have hkm : (k : Int) < 200001 := by have := HL.out; omega
   have hcall := HP.out wr x (by rw [← hx]; exact List.getElem_mem hlt) HB.out
   have HY : Hid (q x = true → idxR q l = (k : Int)) := fun h => idxR_some hlt HH.out (by rw [hx]; exact h)
   have HN : Hid (q x = false → (l.take (k + 1)).all (fun x => !q x) = true) := fun h => all_take (f := fun x => !q x) hlt HH.out (by rw [hx, h]; rfl)
   clear hr hx
   cases hq : q x
   ·have HX := HN.out hq
    rw [hq] at hcall
    have HX2 := Lib.hid HX
    clear HX HY HN
    go_wp2_with (first | ((with_reducible refine wpList_load_at 29 (.tmp 14) b (off + k * 4) (grCells x) HUF.out ?_ ?_ ?_ ?_ ?_); (exact rfl); (exact hcells.out); (exact rfl); (exact info_gr); simp only [Act.put, List.setIfInBounds_toArray, List.set_cons_zero, List.set_cons_succ]))
    refine hcall.mono ?_
    rintro e w2 ⟨rfl, hb⟩
    have HB2 : Hid (Below w.heap.size w w2) := HB.out.trans (hb.mono HB.out.size)
    clear hb
    go_wp2_with fail
    go_roundw
    case rel => exact ⟨k + 1, by omega, by go_num, HX2.out, HB2.out⟩
    case measure => simp [intOf]; omega
   ·have HX := Lib.hid (HY.out hq)
    rw [hq] at hcall
    clear HY HN
    go_wp2_with (first | ((with_reducible refine wpList_load_at 29 (.tmp 14) b (off + k * 4) (grCells x) HUF.out ?_ ?_ ?_ ?_ ?_); (exact rfl); (exact hcells.out); (exact rfl); (exact info_gr); simp only [Act.put, List.setIfInBounds_toArray, List.set_cons_zero, List.set_cons_succ]))
    refine hcall.mono ?_
    rintro e w2 ⟨rfl, hb⟩
    have HB2 : Hid (Below w.heap.size w w2) := HB.out.trans (hb.mono HB.out.size)
    clear hb
    go_wp2_with fail
    go_ret
    exact ⟨by rw [HX.out]; rfl, HB2.out⟩
  ·obtain rfl : k = l.length := by omega
   rw [List.take_length] at HH
   have HX := Lib.hid (idxR_none HH.out)
   go_wp2_with fail
   go_ret
   exact ⟨by rw [HX.out]; rfl, HB.out⟩
theorem idxR_nonneg {α : Type} (p : α → Bool) (l : List α) : decide (0 ≤ idxR p l) = l.any p := by
 unfold idxR
 cases h : l.findIdx? p with
 | none =>
  rw [List.findIdx?_eq_none_iff] at h
  have : l.any p = false := by rw [List.any_eq_false]; intro x hx; simp [h x hx]
  rw [this]; rfl
 | some i =>
  obtain ⟨hi, hx, _⟩ := List.findIdx?_eq_some_iff_getElem.1 h
  have : l.any p = true := List.any_eq_true.2 ⟨_, List.getElem_mem hi, hx⟩
  rw [this]
  simp
set_option maxHeartbeats 4000000 in
theorem contains_any (g : Nat) (lb : Array Value) (q : Gr → Bool) (l : List Gr) (v : Value) (R : List Rng) (w : World) (eg : EntersF g) (hp : GrFn g lb q l w) (hv : GrRd v l R) (hR : RdIn w R) (hl : l.length ≤ 200000) :
  Calls Try.prog 61 #[v, .func (.func g) #[] lb] w fun e w' => e = .returned (.bool (l.any q)) ∧ Below w.heap.size w w' := by
 have hIx := idxGr_any g lb q l v R w eg hp hv hR hl
 have hd := idxR_nonneg q l
 rw [← hd]
 generalize idxR q l = i at *
 clear hd hp hv hR hl eg
 go_enter Try.func61, Try.ntmps61
 go_wp2_with fail
 refine hIx.mono ?_
 rintro e w2 ⟨rfl, hb⟩
 clear hIx
 have HB := Lib.hid hb
 clear hb
 go_wp2_with fail
 go_ret
 exact ⟨rfl, HB.out⟩
structure PosG (t : Gr) (l : List Gr) (i : Nat) : Prop where
 le : i ≤ l.length
 low : ∀ j (h : j < l.length), j < i → GLt l[j] t
 high : ∀ j (h : j < l.length), i ≤ j → ¬ GLt l[j] t
theorem GLt.notlt {a b c : Gr} (h : GLt a b) (k : ¬ GLt a c) : ¬ GLt b c := fun h2 => k (h.trans h2)
def keyAt (l : List Gr) (i : Nat) (t : Gr) : Bool := match l[i]? with | some x => keyB x t.tx t.page t.slot | none => false
set_option maxHeartbeats 8000000 in
theorem binSearch_any (t : Gr) (l : List Gr) (v : Value) (R : List Rng) (w : World) (hs : l.Pairwise GLt) (hv : GrRd v l R) (hR : RdIn w R) (hl : l.length ≤ 200000) :
  Calls Try.prog 71 #[v, .agg (grCells t).toArray, .func (.func 53) #[] #[]] w fun e w' => ∃ i : Nat, e = .returned (.tuple #[.int .i64 i, .bool (keyAt l i t)]) ∧ PosG t l i ∧ Below w.heap.size w w' := by
 obtain ⟨a, cap, rfl, hnc, hcm, hg⟩ := SlRd.open hv hR
 obtain ⟨fs, huf⟩ := under_gr
 have HUG := Lib.hid huf
 have HC : Hid (l.length ≤ cap ∧ cap ≤ maxLen) := ⟨hnc, hcm⟩
 have HL := Lib.hid hl
 have HS := Lib.hid hs
 have eg : ∀ args w, (callFunc 53 args).run Try.prog w = .ok (.enter 53 args) w := enters_of Try.func53 (by kernel_rfl) rfl
 have HOr : Hid (∀ x W, Calls Try.prog 53 #[.agg (grCells x).toArray, .agg (grCells t).toArray] W fun e w' => e = .returned (.int .i64 (ordI x t)) ∧ Below W.heap.size W w') := fun x W => order_any x t W
 have h1 := (Hp.start w).put 29 (grCells t)
 have HS0 : Hid (Hp w [.ob w.heap.size 29 (grCells t)] (w.alloc (.cells (grCells t).toArray 29))) := h1
 clear hv hR hnc hcm hl hs huf h1
 go_enter Try.func71, Try.ntmps71
 go_upto_region 1 with (fail)
 generalize (w.alloc (.cells (grCells t).toArray 29)) = w1 at *
 go_wp2_with fail
 go_loopw [9, 10] (fun si sj wr => ∃ i j : Nat, si = .int .i64 i ∧ sj = .int .i64 j ∧ i ≤ j ∧ j ≤ l.length ∧ (∀ k (h : k < l.length), k < i → GLt l[k] t) ∧ (∀ k (h : k < l.length), j ≤ k → ¬ GLt l[k] t) ∧ Hp w [.ob w.heap.size 29 (grCells t)] wr) (fun si sj _ => (intOf sj).toNat - (intOf si).toNat)
 case atStart => exact ⟨0, l.length, rfl, rfl, by omega, by omega, fun k h hk => absurd hk (Nat.not_lt_zero _), fun k h hk => absurd hk (by omega), HS0.out⟩
 case round =>
  clear HS0
  obtain ⟨i, j, rfl, rfl, hij, hj, hlo, hhi, hsr⟩ := hrel
  have HLo := Lib.hid hlo
  have HHi := Lib.hid hhi
  have HIJ : Hid (i ≤ j ∧ j ≤ l.length) := ⟨hij, hj⟩
  have HY := Lib.hid hsr
  clear hlo hhi hsr
  by_cases hlt : i < j
  ·obtain ⟨h, hh⟩ : ∃ h, (i + j) / 2 = h := ⟨_, rfl⟩
   have hih : i ≤ h ∧ h < j := by omega
   have hhl : h < l.length := by omega
   obtain ⟨b, off, rfl, hr⟩ := hg.out (by omega)
   obtain ⟨y, hy⟩ : ∃ y, l[h]? = some y := ⟨_, List.getElem?_eq_getElem hhl⟩
   have HRow : Hid (∀ W, Below w.heap.size w W → W.rangeAt b (off + h * 4) (grCells y)) := fun W hb => elem_rng (hr W hb) hy
   have hlm : (l.length : Int) < 200001 := by have := HL.out; omega
   have hi1 : (i : Int) < (j : Int) := by omega
   have hw0 : IntKind.i64.wrap ((i : Int) + (j : Int)) = (i : Int) + (j : Int) := by rw [IntKind.wrap_i64]; omega
   have hw1 : IntKind.u64.wrap ((i : Int) + (j : Int)) = (i : Int) + (j : Int) := by rw [IntKind.wrap_u64]; omega
   have hw2 : ((i : Int) + (j : Int)) / 2 = (h : Int) := by omega
   have hw3 : IntKind.i64.wrap (h : Int) = (h : Int) := by rw [IntKind.wrap_i64]; omega
   have hw4 : IntKind.u64.wrap (h : Int) = (h : Int) := by rw [IntKind.wrap_u64]; omega
   have hh0 : (0 : Int) ≤ (h : Int) := by omega
   have hhl2 : (h : Int) < (l.length : Int) := by omega
   have hw5 : IntKind.i64.wrap ((h : Int) + 1) = (h : Int) + 1 := by rw [IntKind.wrap_i64]; omega
   have HH : Hid (i ≤ h ∧ h < j ∧ h < l.length) := ⟨hih.1, hih.2, hhl⟩
   have hyy : l[h] = y := by rw [List.getElem?_eq_getElem hhl] at hy; exact Option.some.inj hy
   have hmono : Hid (∀ k (hk : k < l.length), k ≤ h → GLt y t → GLt l[k] t) := fun k hk hkh hyt => by
    rcases Nat.lt_or_eq_of_le hkh with h1 | h1
    ·have := List.pairwise_iff_getElem.1 HS.out k h hk hhl h1
     rw [hyy] at this; exact this.trans hyt
    ·subst h1; rw [hyy]; exact hyt
   have hmono2 : Hid (∀ k (hk : k < l.length), h ≤ k → ¬ GLt y t → ¬ GLt l[k] t) := fun k hk hkh hyt => by
    rcases Nat.lt_or_eq_of_le hkh with h1 | h1
    ·have := List.pairwise_iff_getElem.1 HS.out h k hhl hk h1
     rw [hyy] at this; exact this.notlt hyt
    ·subst h1; rw [hyy]; exact hyt
   have hor := HOr.out y
   have hneg := @ordI_neg y t
   clear hr hy hyy hg hih hh hhl HOr
   generalize ordI y t = o at *
   obtain ⟨q, hq⟩ : ∃ q, decide (o < 0) = q := ⟨_, rfl⟩
   go_upto_region 5 with (fail)
   refine wp_region_held_drew (S := fun w' => w'.rangeAt b (off + h * 4) (grCells y) ∧ w'.rangeAt w.heap.size 0 (grCells t)) (by kernel_rfl) (⟨HRow.out _ ((HY.out).drew).old, (fun j v hv => by rw [Nat.zero_add]; exact ((HY.out).drew).at 0 rfl j hv)⟩) (fun hHeld => ?_)
   refine tk 0 qPk3_0 (some 24) (v := ?q1v) (Or.inl ⟨by rfl, ?q1h⟩) hHeld ?q1r
   case q1h => (intro wq hSw; clear hSw; go_simp; try with_reducible rfl)
   try simp only [z0, z1, z2, z3]
   refine tk 1 qPk3_1 (some 25) (v := ?q2v) (Or.inl ⟨by rfl, ?q2h⟩) hHeld ?q2r
   case q2h => (intro wq hSw; clear hSw; go_simp; try with_reducible rfl)
   try simp only [z0, z1, z2, z3]
   refine tk 2 qPk3_2 (some 26) (v := ?q3v) (Or.inl ⟨by rfl, ?q3h⟩) hHeld ?q3r
   case q3h => (intro wq hSw; clear hSw; go_simp; try with_reducible rfl)
   try simp only [z0, z1, z2, z3]
   refine tk 3 qPk3_3 (some 27) (v := ?q4v) (Or.inl ⟨by rfl, ?q4h⟩) hHeld ?q4r
   case q4h => (intro wq hSw; clear hSw; go_simp; try with_reducible rfl)
   try simp only [z0, z1, z2, z3]
   refine tk 4 qPk3_4 (some 28) (yieldsIf_load_mid (by rfl) 29 (.tmp 27) rfl b (off + h * 4) rfl (grCells y) _ (fun _ h => h.1) HUG.out rfl (info_gr)) hHeld ?_
   try simp only [z0, z1, z2, z3]
   refine tk 5 qPk3_5 (some 29) (yieldsIf_load_mid (by rfl) 29 (.tmp 4) rfl w.heap.size (0) rfl (grCells t) _ (fun _ h => h.2) HUG.out rfl (info_gr)) hHeld ?_
   try simp only [z0, z1, z2, z3]
   refine tn 6 qPk3_6 (fun K hK => ?_)
   go_simp
   go_wp2_with fail
   refine (hor _).mono ?_
   rintro e w1 ⟨rfl, hb⟩
   have HS1 : Hid (Hp w [.ob (w.heap.size) 29 (grCells t)] w1) := ((HY.out).drew).calls hb
   refine hK.out _ _ (⟨HRow.out _ (HS1.out).old, (fun j v hv => by rw [Nat.zero_add]; exact (HS1.out).at 0 rfl j hv)⟩) (fun hHeld => ?_)
   clear hK K hb
   try simp only [z0, z1, z2, z3]
   refine tk 7 qPk3_7 (some 31) (v := .bool q) (Or.inl ⟨by rfl, ?q7h⟩) hHeld ?q7r
   case q7h => (intro wq hSw; clear hSw; go_simp; try with_reducible rfl)
   try simp only [z0, z1, z2, z3]
   refine wpAnyH_done (by kernel_rfl) ?_ _
   clear hHeld hor hw0 hw1 hw2 hw3 hw4 hlm hi1
   cases q
   case true =>
    have HG := Lib.hid (hneg.1 (of_decide_eq_true hq))
    clear hneg hq
    go_wp2_with fail
    go_roundw
    case rel => exact ⟨h + 1, j, by go_num, rfl, by have := HH.out; omega, HIJ.out.2, fun k hk hkh => hmono.out k hk (by omega) HG.out, HHi.out, HS1.out⟩
    case measure => have := HH.out; simp [intOf]; omega
   case false =>
    have HG := Lib.hid (fun h => of_decide_eq_false hq (hneg.2 h))
    clear hneg hq
    go_wp2_with fail
    go_roundw
    case rel => exact ⟨i, h, rfl, rfl, HH.out.1, by have := HH.out; omega, HLo.out, fun k hk hkh => hmono2.out k hk hkh HG.out, HS1.out⟩
    case measure => have := HH.out; simp [intOf]; omega
  ·obtain rfl : i = j := by omega
   have HP : Hid (PosG t l i) := ⟨hj, HLo.out, fun k hk hik => HHi.out k hk hik⟩
   have hlm : (l.length : Int) < 200001 := by have := HL.out; omega
   have hi0 : (0 : Int) ≤ (i : Int) := by omega
   by_cases hil : i < l.length
   ·obtain ⟨b, off, rfl, hr⟩ := hg.out (by omega)
    obtain ⟨y, hy⟩ : ∃ y, l[i]? = some y := ⟨_, List.getElem?_eq_getElem hil⟩
    have HRow : Hid (∀ W, Below w.heap.size w W → W.rangeAt b (off + i * 4) (grCells y)) := fun W hb => elem_rng (hr W hb) hy
    have hi1 : (i : Int) < (l.length : Int) := by omega
    have hor := HOr.out y
    have hzero := @ordI_zero y t
    have HKey : Hid (keyAt l i t = keyB y t.tx t.page t.slot) := Lib.hid (by unfold keyAt; rw [hy])
    have HKb : Hid (keyB y t.tx t.page t.slot = decide (ordI y t = 0)) := Lib.hid (by rw [Bool.eq_iff_iff, keyB_iff, decide_eq_true_eq]; exact hzero.symm)
    clear hr hy hg HOr hzero
    generalize ordI y t = o at *
    go_upto_region 8 with (fail)
    refine wp_region_held_drew (S := fun w' => w'.rangeAt b (off + i * 4) (grCells y) ∧ w'.rangeAt w.heap.size 0 (grCells t)) (by kernel_rfl) (⟨HRow.out _ ((HY.out).drew).old, (fun j v hv => by rw [Nat.zero_add]; exact ((HY.out).drew).at 0 rfl j hv)⟩) (fun hHeld => ?_)
    refine tk 0 qPk3_8 (some 35) (v := ?q101v) (Or.inl ⟨by rfl, ?q101h⟩) hHeld ?q101r
    case q101h => (intro wq hSw; clear hSw; go_simp; try with_reducible rfl)
    try simp only [z0, z1, z2, z3]
    refine tk 1 qPk3_9 (some 36) (v := ?q102v) (Or.inl ⟨by rfl, ?q102h⟩) hHeld ?q102r
    case q102h => (intro wq hSw; clear hSw; go_simp; try with_reducible rfl)
    try simp only [z0, z1, z2, z3]
    refine tk 2 qPk3_10 (some 37) (v := ?q103v) (Or.inl ⟨by rfl, ?q103h⟩) hHeld ?q103r
    case q103h => (intro wq hSw; clear hSw; go_simp; try with_reducible rfl)
    try simp only [z0, z1, z2, z3]
    refine tk 3 qPk3_11 (some 38) (v := .bool true) (Or.inl ⟨by rfl, ?q104h⟩) hHeld ?q104r
    case q104h => (intro wq hSw; clear hSw; go_simp; try with_reducible rfl)
    try simp only [z0, z1, z2, z3]
    refine tk 4 qPk3_12 (some 39) (v := ?q105v) (Or.inl ⟨by rfl, ?q105h⟩) hHeld ?q105r
    case q105h => (intro wq hSw; clear hSw; go_simp; try with_reducible rfl)
    try simp only [z0, z1, z2, z3]
    refine tk 5 qPk3_13 (some 40) (v := ?q106v) (Or.inl ⟨by rfl, ?q106h⟩) hHeld ?q106r
    case q106h => (intro wq hSw; clear hSw; go_simp; try with_reducible rfl)
    try simp only [z0, z1, z2, z3]
    refine tk 6 qPk3_14 (some 41) (v := ?q107v) (Or.inl ⟨by rfl, ?q107h⟩) hHeld ?q107r
    case q107h => (intro wq hSw; clear hSw; go_simp; try with_reducible rfl)
    try simp only [z0, z1, z2, z3]
    refine tk 7 qPk3_15 (some 42) (v := ?q108v) (Or.inl ⟨by rfl, ?q108h⟩) hHeld ?q108r
    case q108h => (intro wq hSw; clear hSw; go_simp; try with_reducible rfl)
    try simp only [z0, z1, z2, z3]
    refine tk 8 qPk3_16 (some 43) (v := ?q109v) (Or.inl ⟨by rfl, ?q109h⟩) hHeld ?q109r
    case q109h => (intro wq hSw; clear hSw; go_simp; try with_reducible rfl)
    try simp only [z0, z1, z2, z3]
    refine tk 9 qPk3_17 (some 44) (yieldsIf_load_mid (by rfl) 29 (.tmp 43) rfl b (off + i * 4) rfl (grCells y) _ (fun _ h => h.1) HUG.out rfl (info_gr)) hHeld ?_
    try simp only [z0, z1, z2, z3]
    refine tk 10 qPk3_18 (some 45) (yieldsIf_load_mid (by rfl) 29 (.tmp 4) rfl w.heap.size (0) rfl (grCells t) _ (fun _ h => h.2) HUG.out rfl (info_gr)) hHeld ?_
    try simp only [z0, z1, z2, z3]
    refine tn 11 qPk3_19 (fun K hK => ?_)
    go_simp
    go_wp2_with fail
    refine (hor _).mono ?_
    rintro e w1 ⟨rfl, hb⟩
    have HS1 : Hid (Hp w [.ob (w.heap.size) 29 (grCells t)] w1) := ((HY.out).drew).calls hb
    refine hK.out _ _ (⟨HRow.out _ (HS1.out).old, (fun j v hv => by rw [Nat.zero_add]; exact (HS1.out).at 0 rfl j hv)⟩) (fun hHeld => ?_)
    clear hK K hb
    try simp only [z0, z1, z2, z3]
    refine tk 12 qPk3_20 (some 47) (v := ?q112v) (Or.inl ⟨by rfl, ?q112h⟩) hHeld ?q112r
    case q112h => (intro wq hSw; clear hSw; go_simp; try with_reducible rfl)
    try simp only [z0, z1, z2, z3]
    refine tk 13 qPk3_21 (some 48) (v := ?q113v) (Or.inl ⟨by rfl, ?q113h⟩) hHeld ?q113r
    case q113h => (intro wq hSw; clear hSw; go_simp; try with_reducible rfl)
    try simp only [z0, z1, z2, z3]
    refine tk 14 qPk3_22 (some 6) (v := ?q114v) (Or.inl ⟨by rfl, ?q114h⟩) hHeld ?q114r
    case q114h => (intro wq hSw; clear hSw; go_simp; try with_reducible rfl)
    try simp only [z0, z1, z2, z3]
    refine tk 15 qPk3_23 (some 7) (v := ?q115v) (Or.inl ⟨by rfl, ?q115h⟩) hHeld ?q115r
    case q115h => (intro wq hSw; clear hSw; go_simp; try with_reducible rfl)
    try simp only [z0, z1, z2, z3]
    refine wpAnyH_done (by kernel_rfl) ?_ _
    go_wp2_with fail
    clear hHeld hor
    exact bodyPost_ret (v := .tuple #[.int .i64 i, .bool (o == 0)]) (by simp [results, Try.results71, go_sem]) rfl ⟨i, by rw [HKey.out, HKb.out, beq_dec'], HP.out, (HS1.out).old⟩
   ·have hi1 : ¬ (i : Int) < (l.length : Int) := by omega
    have HKey : Hid (keyAt l i t = false) := Lib.hid (by unfold keyAt; rw [List.getElem?_eq_none (by omega)])
    clear hg
    go_upto_region 8 with (fail)
    refine wp_region_held_drew (S := fun w' => True) (by kernel_rfl) (trivial) (fun hHeld => ?_)
    refine tk 0 qPk3_8 (some 35) (v := ?q201v) (Or.inl ⟨by rfl, ?q201h⟩) hHeld ?q201r
    case q201h => (intro wq hSw; clear hSw; go_simp; try with_reducible rfl)
    try simp only [z0, z1, z2, z3]
    refine tk 1 qPk3_9 (some 36) (v := ?q202v) (Or.inl ⟨by rfl, ?q202h⟩) hHeld ?q202r
    case q202h => (intro wq hSw; clear hSw; go_simp; try with_reducible rfl)
    try simp only [z0, z1, z2, z3]
    refine tk 2 qPk3_10 (some 37) (v := ?q203v) (Or.inl ⟨by rfl, ?q203h⟩) hHeld ?q203r
    case q203h => (intro wq hSw; clear hSw; go_simp; try with_reducible rfl)
    try simp only [z0, z1, z2, z3]
    refine tk 3 qPk3_11 (some 38) (v := .bool false) (Or.inl ⟨by rfl, ?q204h⟩) hHeld ?q204r
    case q204h => (intro wq hSw; clear hSw; go_simp; try with_reducible rfl)
    try simp only [z0, z1, z2, z3]
    refine tk 4 qPk3_12 (some 39) (v := ?q205v) (Or.inl ⟨by rfl, ?q205h⟩) hHeld ?q205r
    case q205h => (intro wq hSw; clear hSw; go_simp; try with_reducible rfl)
    try simp only [z0, z1, z2, z3]
    refine tk 5 qPk3_13 (some 40) (v := undef) (Or.inr ⟨by rfl, rfl⟩) hHeld ?_
    try simp only [z0, z1, z2, z3]
    refine tk 6 qPk3_14 (some 41) (v := undef) (Or.inr ⟨by rfl, rfl⟩) hHeld ?_
    try simp only [z0, z1, z2, z3]
    refine tk 7 qPk3_15 (some 42) (v := undef) (Or.inr ⟨by rfl, rfl⟩) hHeld ?_
    try simp only [z0, z1, z2, z3]
    refine tk 8 qPk3_16 (some 43) (v := undef) (Or.inr ⟨by rfl, rfl⟩) hHeld ?_
    try simp only [z0, z1, z2, z3]
    refine tk 9 qPk3_17 (some 44) (v := undef) (Or.inr ⟨by rfl, rfl⟩) hHeld ?_
    try simp only [z0, z1, z2, z3]
    refine tk 10 qPk3_18 (some 45) (v := undef) (Or.inr ⟨by rfl, rfl⟩) hHeld ?_
    try simp only [z0, z1, z2, z3]
    refine tk 11 qPk3_19 (some 46) (v := undef) (Or.inr ⟨by rfl, rfl⟩) hHeld ?_
    try simp only [z0, z1, z2, z3]
    refine tk 12 qPk3_20 (some 47) (v := undef) (Or.inr ⟨by rfl, rfl⟩) hHeld ?_
    try simp only [z0, z1, z2, z3]
    refine tk 13 qPk3_21 (some 48) (v := ?q214v) (Or.inl ⟨by rfl, ?q214h⟩) hHeld ?q214r
    case q214h => (intro wq hSw; clear hSw; go_simp; try with_reducible rfl)
    try simp only [z0, z1, z2, z3]
    refine tk 14 qPk3_22 (some 6) (v := ?q215v) (Or.inl ⟨by rfl, ?q215h⟩) hHeld ?q215r
    case q215h => (intro wq hSw; clear hSw; go_simp; try with_reducible rfl)
    try simp only [z0, z1, z2, z3]
    refine tk 15 qPk3_23 (some 7) (v := ?q216v) (Or.inl ⟨by rfl, ?q216h⟩) hHeld ?q216r
    case q216h => (intro wq hSw; clear hSw; go_simp; try with_reducible rfl)
    try simp only [z0, z1, z2, z3]
    refine wpAnyH_done (by kernel_rfl) ?_ _
    go_wp2_with fail
    exact bodyPost_ret (v := .tuple #[.int .i64 i, .bool false]) (by simp [results, Try.results71, go_sem]) rfl ⟨i, by rw [HKey.out], HP.out, ((HY.out).drew).old⟩

end Go.Proofs.Ytcnaalbpbalgdaa
/- the program's place, mode, holders, upgrade (locks) -/
namespace Go.Proofs.Ytcnaalbpbalgdaa
open Go.RowKit
set_option maxRecDepth 20000
set_option linter.unusedSimpArgs false
set_option linter.unusedVariables false

theorem pos_find {t : Gr} {l : List Gr} {i : Nat} (hs : l.Pairwise GLt) (h : PosG t l i) : findK l t.tx t.page t.slot = if keyAt l i t = true then l[i]? else none := by
  by_cases hil : i < l.length
  · have hx : l[i]? = some l[i] := List.getElem?_eq_getElem hil
    have hk : keyAt l i t = keyB l[i] t.tx t.page t.slot := by unfold keyAt; rw [hx]
    cases hkb : keyB l[i] t.tx t.page t.slot with
    | true =>
      rw [hk, hkb, if_pos rfl, hx]
      have h1 := keyB_iff.1 hkb
      have := findK_mem hs (List.getElem_mem hil)
      rw [h1.1, h1.2.1, h1.2.2] at this
      exact this
    | false =>
      rw [hk, hkb, if_neg (by simp)]
      cases hf : findK l t.tx t.page t.slot with
      | none => rfl
      | some x =>
        exfalso
        obtain ⟨hm, h1, h2, h3⟩ := findK_some hf
        obtain ⟨j, hj, rfl⟩ := List.getElem_of_mem hm
        rcases Nat.lt_trichotomy j i with hji | rfl | hji
        · have := h.low j hj hji; unfold GLt at this; omega
        · have : keyB l[j] t.tx t.page t.slot = true := keyB_iff.2 ⟨h1, h2, h3⟩
          rw [hkb] at this; cases this
        · have h4 := List.pairwise_iff_getElem.1 hs i j hil hj hji
          have h5 := h.high i hil (Nat.le_refl _)
          unfold GLt at h4 h5; omega
  · have hx : l[i]? = none := List.getElem?_eq_none (by omega)
    have hk : keyAt l i t = false := by unfold keyAt; rw [hx]
    rw [hk, if_neg (by simp)]
    cases hf : findK l t.tx t.page t.slot with
    | none => rfl
    | some x =>
      exfalso
      obtain ⟨hm, h1, h2, h3⟩ := findK_some hf
      obtain ⟨j, hj, rfl⟩ := List.getElem_of_mem hm
      have := h.low j hj (by omega); unfold GLt at this; omega
theorem build_pl (tx : Int) (k : Lok) (W : World) : Sem.run Try.prog (Instr.build 29 #[(0, .int .i64 tx), (1, .agg (lkCells k).toArray)]) W = .ok (.agg (grCells ⟨tx, k.page, k.slot, 0⟩).toArray) W := by kernel_rfl
abbrev plG (tx : Int) (k : Lok) : Gr := ⟨tx, k.page, k.slot, 0⟩
def PlPost (l : List Gr) (t : Gr) (w : World) (e : Ending) (w' : World) : Prop := ∃ i : Nat, e = .returned (.tuple #[.int .i64 i, .bool (keyAt l i t)]) ∧ PosG t l i ∧ Below w.heap.size w w'
set_option maxHeartbeats 4000000 in
theorem place_any (tx : Int) (k : Lok) (l : List Gr) (v : Value) (R : List Rng) (w : World) (hs : l.Pairwise GLt) (hv : GrRd v l R) (hR : RdIn w R) (hl : l.length ≤ 200000) :
    Calls Try.prog 56 #[v, .int .i64 tx, .agg (lkCells k).toArray] w (PlPost l (plG tx k) w) := by
  have HBs : Hid (∀ W, Below w.heap.size w W → Calls Try.prog 71 #[v, .agg (grCells (plG tx k)).toArray, .func (.func 53) #[] #[]] W (PlPost l (plG tx k) W)) := fun W hb => binSearch_any _ l v R W hs hv (hR.below hb) hl
  have h1 := (Hp.start w).put 27 (lkCells k)
  have HS0 : Hid (Hp w [.ob w.heap.size 27 (lkCells k)] (w.alloc (.cells (lkCells k).toArray 27))) := h1
  clear h1 hs hv hR hl
  obtain ⟨fs, hu⟩ := under_lk
  have HUK := Lib.hid hu
  clear hu
  go_enter Try.func56, Try.ntmps56
  go_upto_region 1 with (fail)
  generalize (w.alloc (.cells (lkCells k).toArray 27)) = w1 at *
  go_wp2_with (first | ((with_reducible refine wpList_load_ob 27 (.tmp 5) w.heap.size (lkCells k) 27 HUK.out ?_ ?_ ?_ ?_ ?_); (exact rfl); (exact HS0.out.get 0 rfl); (exact rfl); (exact info_lk); simp only [Act.put, List.setIfInBounds_toArray, List.set_cons_zero, List.set_cons_succ]) | ((with_reducible refine wpList_build_v (d := some 11) 29 (.agg (grCells (plG tx k)).toArray) ?_ ?_); (intro W; simp only [List.map_toArray, List.map_cons, List.map_nil]; exact build_pl tx k W); simp only [Act.put, List.setIfInBounds_toArray, List.set_cons_zero, List.set_cons_succ]))
  refine (HBs.out _ HS0.out.old).mono ?_
  rintro e w2 ⟨i, rfl, hp, hb⟩
  have HP := Lib.hid hp
  have HS1 := Lib.hid (HS0.out.calls hb)
  clear hp hb HS0 HBs
  go_wp2_with fail
  exact bodyPost_ret (v := .tuple #[.int .i64 i, .bool (keyAt l i (plG tx k))]) (by simp [results, Try.results56, go_sem]) rfl ⟨i, rfl, HP.out, HS1.out.old⟩
set_option maxHeartbeats 4000000 in
theorem pmode_any (tx : Int) (k : Lok) (l : List Gr) (v : Value) (R : List Rng) (w : World) (hs : l.Pairwise GLt) (hv : GrRd v l R) (hR : RdIn w R) (hl : l.length ≤ 200000) :
    Calls Try.prog 41 #[v, .int .i64 tx, .agg (lkCells k).toArray] w fun e w' => e = .returned (.int .i64 (modeR l tx k.page k.slot)) ∧ Below w.heap.size w w' := by
  have HPl : Hid (∀ W, Below w.heap.size w W → Calls Try.prog 56 #[v, .int .i64 tx, .agg (lkCells k).toArray] W (PlPost l (plG tx k) W)) := fun W hb => place_any tx k l v R W hs hv (hR.below hb) hl
  obtain ⟨a, cap, rfl, hnc, hcm, hg⟩ := SlRd.open hv hR
  have h1 := (Hp.start w).put 27 (lkCells k)
  have HS0 : Hid (Hp w [.ob w.heap.size 27 (lkCells k)] (w.alloc (.cells (lkCells k).toArray 27))) := h1
  have HSo := Lib.hid hs
  have HL := Lib.hid hl
  clear h1 hs hv hR hl hnc hcm
  obtain ⟨fs, hu⟩ := under_lk
  have HUK := Lib.hid hu
  clear hu
  have HM : Hid (modeR l tx k.page k.slot = (findK l tx k.page k.slot).elim 0 Gr.mode) := rfl
  go_enter Try.func41, Try.ntmps41
  go_upto_region 1 with (fail)
  generalize (w.alloc (.cells (lkCells k).toArray 27)) = w1 at *
  go_wp2_with (first | ((with_reducible refine wpList_load_ob 27 (.tmp 5) w.heap.size (lkCells k) 27 HUK.out ?_ ?_ ?_ ?_ ?_); (exact rfl); (exact HS0.out.get 0 rfl); (exact rfl); (exact info_lk); simp only [Act.put, List.setIfInBounds_toArray, List.set_cons_zero, List.set_cons_succ]))
  refine (HPl.out _ HS0.out.old).mono ?_
  rintro e w2 ⟨i, rfl, hp, hb⟩
  have hf := pos_find HSo.out hp
  have HS1 := Lib.hid (HS0.out.calls hb)
  simp only at hf
  clear hb HS0 HPl
  cases hq : keyAt l i (plG tx k)
  · rw [hq] at hf
    have HV : Hid (modeR l tx k.page k.slot = 0) := Lib.hid (by rw [HM.out, hf]; rfl)
    clear hf hp hg
    go_wp2_with fail
    go_ret
    exact ⟨by rw [HV.out]; rfl, HS1.out.old⟩
  · rw [hq, if_pos rfl] at hf
    have hil : i < l.length := by
      rcases Nat.lt_or_ge i l.length with h | h
      · exact h
      · unfold keyAt at hq; rw [List.getElem?_eq_none h] at hq; cases hq
    obtain ⟨x, hx⟩ : ∃ x, l[i]? = some x := ⟨_, List.getElem?_eq_getElem hil⟩
    have HV : Hid (modeR l tx k.page k.slot = x.mode) := Lib.hid (by rw [HM.out, hf, hx]; rfl)
    obtain ⟨g, off, rfl, hr⟩ := hg.out (by omega)
    have c3 : w2.cell? ⟨g, off + i * 4 + 3, none⟩ = some (.int .i64 x.mode) := by have := hr w2 HS1.out.old (i * 4 + 3) _ (grRow_at l i x hx 3 _ rfl); exact this
    have hi1 : (i : Int) < (l.length : Int) := by omega
    have hi0 : (0 : Int) ≤ (i : Int) := by omega
    clear hf hp hg hr hx hq HM
    go_wp2_with fail
    go_ret
    exact ⟨by rw [HV.out]; rfl, HS1.out.old⟩
set_option maxHeartbeats 4000000 in
theorem upgrade_any (g : Gr) (l : List Gr) (v : Value) (R : List Rng) (w : World) (hs : l.Pairwise GLt) (hv : GrRd v l R) (hR : RdIn w R) (hl : l.length ≤ 200000) :
    Calls Try.prog 60 #[v, .agg (grCells g).toArray] w fun e w' => e = .returned (.bool (decide (0 < modeG l g))) ∧ Below w.heap.size w w' := by
  have HMo : Hid (∀ W, Below w.heap.size w W → Calls Try.prog 41 #[v, .int .i64 g.tx, .agg #[.int .i64 g.page, .int .i64 g.slot]] W fun e w' => e = .returned (.int .i64 (modeG l g)) ∧ Below W.heap.size W w') := fun W hb => pmode_any g.tx g.lock l v R W hs hv (hR.below hb) hl
  have h1 := (Hp.start w).put 29 (grCells g)
  have HS0 : Hid (Hp w [.ob w.heap.size 29 (grCells g)] (w.alloc (.cells (grCells g).toArray 29))) := h1
  clear h1 hs hv hR hl
  go_enter Try.func60, Try.ntmps60
  go_upto_region 1 with (fail)
  generalize (w.alloc (.cells (grCells g).toArray 29)) = w1 at *
  have x0 : w1.cell? ⟨w.heap.size, 0, none⟩ = some (.int .i64 g.tx) := HS0.out.at 0 rfl 0 rfl
  have x1 : w1.cell? ⟨w.heap.size, 1, none⟩ = some (.int .i64 g.page) := HS0.out.at 0 rfl 1 rfl
  have x2 : w1.cell? ⟨w.heap.size, 2, none⟩ = some (.int .i64 g.slot) := HS0.out.at 0 rfl 2 rfl
  go_wp2_with fail
  refine (HMo.out _ HS0.out.old).mono ?_
  rintro e w2 ⟨rfl, hb⟩
  have HS1 := Lib.hid (HS0.out.calls hb)
  clear hb HS0 HMo x0 x1 x2
  go_wp2_with fail
  go_ret
  exact ⟨rfl, HS1.out.old⟩
theorem pos_le {t u : Gr} {l : List Gr} {p q : Nat} (h : PosG t l p) (k : PosG u l q) (htu : GLt t u) : p ≤ q := by
  rcases Nat.lt_or_ge q p with h1 | h1
  · exfalso
    have hq : q < l.length := Nat.lt_of_lt_of_le h1 h.le
    exact k.high q hq (Nat.le_refl _) ((h.low q hq h1).trans htu)
  · exact h1
theorem mem_part {t u x : Gr} {l : List Gr} {p q : Nat} (h : PosG t l p) (k : PosG u l q) (hx : x ∈ l) (h1 : GLt t x) (h2 : GLt x u) : x ∈ (l.take q).drop p := by
  obtain ⟨j, hj, rfl⟩ := List.getElem_of_mem hx
  have hpj : p ≤ j := by
    rcases Nat.lt_or_ge j p with h3 | h3
    · exact absurd (h.low j hj h3) (fun h4 => h4.asymm h1)
    · exact h3
  have hjq : j < q := by
    rcases Nat.lt_or_ge j q with h3 | h3
    · exact h3
    · exact absurd h2 (k.high j hj h3)
  rw [List.mem_iff_getElem?]
  refine ⟨j - p, ?_⟩
  rw [List.getElem?_drop, List.getElem?_take, if_pos (by omega), show p + (j - p) = j from by omega, List.getElem?_eq_getElem hj]
theorem part_any {l : List Gr} {k : Lok} {p q : Nat} (hl : HeldOk l) (h : PosG (plG 0 k) l p) (h2 : PosG (plG 1073741825 k) l q) (g : Gr) (hg : g.page = k.page ∧ g.slot = k.slot) : ((l.take q).drop p).any (fun x => confB g x) = l.any (fun x => confB g x) := by
  rw [Bool.eq_iff_iff, List.any_eq_true, List.any_eq_true]
  constructor
  · rintro ⟨x, hx, hc⟩
    exact ⟨x, List.mem_of_mem_take (List.mem_of_mem_drop hx), hc⟩
  · rintro ⟨x, hx, hc⟩
    refine ⟨x, ?_, hc⟩
    have hcf := confB_iff.1 hc
    have hok := hl.ok x hx
    have e1 := hcf.2.1
    have e2 := hcf.2.2.1
    have := hok.1
    refine mem_part h h2 hx ?_ ?_
    · unfold GLt; simp only; omega
    · unfold GLt; simp only; omega
def HoPost (l : List Gr) (k : Lok) (R : List Rng) (w : World) (e : Ending) (w' : World) : Prop :=
  ∃ v m R', e = .returned v ∧ GrRd v m R' ∧ RdIn w' R' ∧ (∀ r ∈ R', r.1 ∈ R.map (·.1)) ∧ m.length ≤ l.length ∧ (∀ x ∈ m, x ∈ l) ∧ (∀ g : Gr, g.page = k.page ∧ g.slot = k.slot → m.any (fun x => confB g x) = l.any (fun x => confB g x)) ∧ Below w.heap.size w w'
set_option maxHeartbeats 4000000 in
theorem holders_any (k : Lok) (l : List Gr) (v : Value) (R : List Rng) (w : World) (hs : HeldOk l) (hv : GrRd v l R) (hR : RdIn w R) (hl : l.length ≤ 200000) :
    Calls Try.prog 62 #[v, .agg (lkCells k).toArray] w (HoPost l k R w) := by
  have HPl : Hid (∀ tx W, Below w.heap.size w W → Calls Try.prog 56 #[v, .int .i64 tx, .agg (lkCells k).toArray] W (PlPost l (plG tx k) W)) := fun tx W hb => place_any tx k l v R W hs.up hv (hR.below hb) hl
  obtain ⟨a, cap, rfl, hnc, hcm⟩ := GrRd.shape hv
  have h1 := (Hp.start w).put 27 (lkCells k)
  have HS0 : Hid (Hp w [.ob w.heap.size 27 (lkCells k)] (w.alloc (.cells (lkCells k).toArray 27))) := h1
  have HSo := Lib.hid hs
  have HV := Lib.hid hv
  have HR := Lib.hid hR
  have HL := Lib.hid hl
  clear h1 hs hv hR hl
  obtain ⟨fs, hu⟩ := under_lk
  have HUK := Lib.hid hu
  clear hu
  go_enter Try.func62, Try.ntmps62
  go_upto_region 1 with (fail)
  generalize (w.alloc (.cells (lkCells k).toArray 27)) = w1 at *
  go_wp2_with (first | ((with_reducible refine wpList_load_ob 27 (.tmp 3) w.heap.size (lkCells k) 27 HUK.out ?_ ?_ ?_ ?_ ?_); (exact rfl); (exact HS0.out.get 0 rfl); (exact rfl); (exact info_lk); simp only [Act.put, List.setIfInBounds_toArray, List.set_cons_zero, List.set_cons_succ]))
  refine (HPl.out 0 _ HS0.out.old).mono ?_
  rintro e w2 ⟨p, rfl, hp, hb⟩
  have HP := Lib.hid hp
  have HS1 := Lib.hid (HS0.out.calls hb)
  clear hb HS0 hp
  go_wp2_with (first | ((with_reducible refine wpList_load_ob 27 (.tmp 3) w.heap.size (lkCells k) 27 HUK.out ?_ ?_ ?_ ?_ ?_); (exact rfl); (exact HS1.out.get 0 rfl); (exact rfl); (exact info_lk); simp only [Act.put, List.setIfInBounds_toArray, List.set_cons_zero, List.set_cons_succ]))
  refine (HPl.out 1073741825 _ HS1.out.old).mono ?_
  rintro e w3 ⟨q, rfl, hq, hb⟩
  have HQ := Lib.hid hq
  have HS2 := Lib.hid (HS1.out.calls hb)
  have hpq : p ≤ q := pos_le HP.out hq (.inr ⟨rfl, .inr ⟨rfl, by show (0 : Int) < 1073741825; decide⟩⟩)
  have hql : q ≤ l.length := hq.le
  obtain ⟨R1, h2, h3, h4⟩ := gr_take HV.out q hql
  have hlen : (l.take q).length = q := by rw [List.length_take]; omega
  rw [show (Value.slice a q cap) = .slice a (l.take q).length cap from by rw [hlen]] at h2
  obtain ⟨R2, h5, h6, h7⟩ := gr_drop h2 p (by omega)
  rw [hlen] at h5
  have HE : Hid (HoPost l k R w (.returned (.slice (if cap = p then a else Option.map (fun x => Addr.add x (p * 4)) a) (q - p) (cap - p))) w3) := by
    refine ⟨_, (l.take q).drop p, R2, rfl, h5, h6 _ (h3 _ (HR.out.below HS2.out.old)), fun r hr => ?_, by rw [List.length_drop, hlen]; omega, fun x hx => List.mem_of_mem_take (List.mem_of_mem_drop hx), fun g hg => part_any HSo.out HP.out HQ.out g hg, HS2.out.old⟩
    obtain ⟨r2, hr2, e2⟩ := List.mem_map.1 (h7 r hr)
    rw [← e2]
    exact h4 r2 hr2
  have hp0 : (0 : Int) ≤ (p : Int) := by omega
  have hpq' : (p : Int) ≤ (q : Int) := by omega
  have hql' : (q : Int) ≤ (l.length : Int) := by omega
  have hlc : (l.length : Int) ≤ (cap : Int) := by omega
  have hqc : (q : Int) ≤ (cap : Int) := by omega
  have hpc : (p : Int) ≤ (cap : Int) := by omega
  clear hb HS1 hq HPl h2 h3 h4 h5 h6 h7 hlen hpq hql
  by_cases hcp : cap = p
  · have HE2 : Hid (HoPost l k R w (.returned (.slice a (q - p) 0)) w3) := Lib.hid (by have h := HE.out; rw [if_pos hcp, hcp, Nat.sub_self] at h; exact h)
    clear HE
    subst hcp
    go_wp2_with fail
    go_ret
    exact HE2.out
  · have HE2 : Hid (HoPost l k R w (.returned (.slice (Option.map (fun x => Addr.add x (p * 4)) a) (q - p) (cap - p))) w3) := Lib.hid (by have h := HE.out; rw [if_neg hcp] at h; exact h)
    clear HE
    go_wp2_with fail
    go_ret
    exact HE2.out
end Go.Proofs.Ytcnaalbpbalgdaa
/- the program's size and validHeld (locks) -/
namespace Go.Proofs.Ytcnaalbpbalgdaa
open Go.RowKit
open Go.Act renaming put → z0
open List renaming setIfInBounds_toArray → z1, set_cons_zero → z2, set_cons_succ → z3
set_option maxRecDepth 20000
set_option linter.unusedSimpArgs false
set_option linter.unusedVariables false

theorem adj_free {a : List Gr} {x y : Gr} (h : HeldOk a) (hy : a.getLast? = some y) (hu : GLt y x) (hc : ¬ Conf y x) : ∀ z ∈ a, ¬ Conf z x := by
 obtain ⟨b, rfl⟩ : ∃ b, a = b ++ [y] := by
  rw [List.getLast?_eq_some_iff] at hy
  exact hy
 intro z hz hcf
 rcases List.mem_append.1 hz with hz | hz
 ·have h1 := (List.pairwise_append.1 h.up).2.2 z hz y (by simp)
  have h2 := (List.pairwise_append.1 h.free).2.2 z hz y (by simp)
  unfold Conf at h2 hc hcf
  unfold GLt at h1 hu
  omega
 ·obtain rfl : z = y := by simpa using hz
  exact hc hcf
noncomputable def heldB (l : List Gr) : Bool := @decide (HeldOk l) (Classical.propDecidable _)
theorem heldB_iff {l : List Gr} : heldB l = true ↔ HeldOk l := @decide_eq_true_iff _ (Classical.propDecidable _)
theorem heldB_no {l : List Gr} (h : ¬ HeldOk l) : heldB l = false := by
 cases e : heldB l with
 | false => rfl
 | true => exact absurd (heldB_iff.1 e) h
theorem heldB_yes {l : List Gr} (h : HeldOk l) : heldB l = true := heldB_iff.2 h
theorem h_grant {l : List Gr} {i : Nat} {x : Gr} (hx : l[i]? = some x) (h : grOkB x = false) : heldB l = false := heldB_no fun k => by
 have := grOkB_iff.2 (k.ok x (List.mem_of_getElem? hx)); rw [h] at this; cases this
theorem h_less {l : List Gr} {i p : Nat} {x y : Gr} (hx : l[i]? = some x) (hip : i = p + 1) (hy : l[p]? = some y) (h : ¬ GLt y x) : heldB l = false := heldB_no fun k => by
 obtain ⟨h1, rfl⟩ := List.getElem?_eq_some_iff.1 hx
 obtain ⟨h2, rfl⟩ := List.getElem?_eq_some_iff.1 hy
 exact h (List.pairwise_iff_getElem.1 k.up p i h2 h1 (by omega))
theorem h_conf {l : List Gr} {i p : Nat} {x y : Gr} (hx : l[i]? = some x) (hip : i = p + 1) (hy : l[p]? = some y) (h : Conf y x) : heldB l = false := heldB_no fun k => by
 obtain ⟨h1, rfl⟩ := List.getElem?_eq_some_iff.1 hx
 obtain ⟨h2, rfl⟩ := List.getElem?_eq_some_iff.1 hy
 exact (List.pairwise_iff_getElem.1 k.free p i h2 h1 (by omega)) h
abbrev qPk5_0 : Oper := { dst := some 12, op := Op.load 29 (Operand.tmp 4), type := 29, pos := "locks.go:60", after := #[], guard := none }
abbrev qPk5_1 : Oper := { dst := some 13, op := Op.call { callee := Callee.value (Operand.func 40), args := #[Operand.tmp 12], argTypes := #[29] }, type := 4, pos := "locks.go:60", after := #[{ on := 0, ground := Ground.data }], guard := none }
abbrev qPk5_2 : Oper := { dst := some 14, op := Op.unOp UnOp.not 4 (Operand.tmp 13), type := 4, pos := "locks.go:60", after := #[{ on := 1, ground := Ground.data }], guard := none }
abbrev qPk5_3 : Oper := { dst := some 15, op := Op.move (Operand.tmp 14), type := 4, pos := "locks.go:60", after := #[{ on := 2, ground := Ground.data }, { on := 1, ground := Ground.chain }], guard := none }
abbrev qPk5_4 : Oper := { dst := some 16, op := Op.move (Operand.tmp 3), type := 3, pos := "locks.go:60", after := #[{ on := 3, ground := Ground.guard }], guard := some (3, false) }
abbrev qPk5_5 : Oper := { dst := some 17, op := Op.binOp BinOp.gtr 3 (Operand.tmp 16) (Operand.const (Value.int IntKind.i64 0)) 3, type := 4, pos := "locks.go:60", after := #[{ on := 4, ground := Ground.data }, { on := 3, ground := Ground.guard }], guard := some (3, false) }
abbrev qPk5_6 : Oper := { dst := some 18, op := Op.move (Operand.tmp 17), type := 4, pos := "locks.go:60", after := #[{ on := 5, ground := Ground.data }, { on := 3, ground := Ground.chain }, { on := 3, ground := Ground.guard }], guard := some (3, false) }
abbrev qPk5_7 : Oper := { dst := some 19, op := Op.move (Operand.tmp 0), type := 23, pos := "locks.go:60", after := #[{ on := 6, ground := Ground.guard }], guard := some (6, true) }
abbrev qPk5_8 : Oper := { dst := some 20, op := Op.move (Operand.tmp 3), type := 3, pos := "locks.go:60", after := #[{ on := 6, ground := Ground.guard }], guard := some (6, true) }
abbrev qPk5_9 : Oper := { dst := some 21, op := Op.binOp BinOp.sub 3 (Operand.tmp 20) (Operand.const (Value.int IntKind.i64 1)) 3, type := 3, pos := "locks.go:60", after := #[{ on := 8, ground := Ground.data }, { on := 6, ground := Ground.guard }], guard := some (6, true) }
abbrev qPk5_10 : Oper := { dst := some 22, op := Op.indexAddr 23 (Operand.tmp 19) (Operand.tmp 21), type := 0, pos := "locks.go:60", after := #[{ on := 7, ground := Ground.data }, { on := 9, ground := Ground.data }, { on := 6, ground := Ground.guard }], guard := some (6, true) }
abbrev qPk5_11 : Oper := { dst := some 23, op := Op.load 29 (Operand.tmp 22), type := 29, pos := "locks.go:60", after := #[{ on := 10, ground := Ground.data }, { on := 6, ground := Ground.guard }], guard := some (6, true) }
abbrev qPk5_12 : Oper := { dst := some 24, op := Op.load 29 (Operand.tmp 4), type := 29, pos := "locks.go:60", after := #[{ on := 6, ground := Ground.guard }], guard := some (6, true) }
abbrev qPk5_13 : Oper := { dst := some 25, op := Op.call { callee := Callee.value (Operand.func 53), args := #[Operand.tmp 23, Operand.tmp 24], argTypes := #[29, 29] }, type := 3, pos := "locks.go:60", after := #[{ on := 11, ground := Ground.data }, { on := 12, ground := Ground.data }, { on := 6, ground := Ground.chain }, { on := 6, ground := Ground.guard }], guard := some (6, true) }
abbrev qPk5_14 : Oper := { dst := some 26, op := Op.binOp BinOp.geq 3 (Operand.tmp 25) (Operand.const (Value.int IntKind.i64 0)) 3, type := 4, pos := "locks.go:60", after := #[{ on := 13, ground := Ground.data }, { on := 6, ground := Ground.guard }], guard := some (6, true) }
abbrev qPk5_15 : Oper := { dst := some 27, op := Op.move (Operand.tmp 26), type := 4, pos := "locks.go:60", after := #[{ on := 14, ground := Ground.data }, { on := 13, ground := Ground.chain }, { on := 6, ground := Ground.guard }], guard := some (6, true) }
abbrev qPk5_16 : Oper := { dst := some 28, op := Op.move (Operand.tmp 0), type := 23, pos := "locks.go:60", after := #[{ on := 15, ground := Ground.guard }], guard := some (15, false) }
abbrev qPk5_17 : Oper := { dst := some 29, op := Op.move (Operand.tmp 3), type := 3, pos := "locks.go:60", after := #[{ on := 15, ground := Ground.guard }], guard := some (15, false) }
abbrev qPk5_18 : Oper := { dst := some 30, op := Op.binOp BinOp.sub 3 (Operand.tmp 29) (Operand.const (Value.int IntKind.i64 1)) 3, type := 3, pos := "locks.go:60", after := #[{ on := 17, ground := Ground.data }, { on := 15, ground := Ground.guard }], guard := some (15, false) }
abbrev qPk5_19 : Oper := { dst := some 31, op := Op.indexAddr 23 (Operand.tmp 28) (Operand.tmp 30), type := 0, pos := "locks.go:60", after := #[{ on := 16, ground := Ground.data }, { on := 18, ground := Ground.data }, { on := 15, ground := Ground.guard }], guard := some (15, false) }
abbrev qPk5_20 : Oper := { dst := some 32, op := Op.load 29 (Operand.tmp 31), type := 29, pos := "locks.go:60", after := #[{ on := 19, ground := Ground.data }, { on := 15, ground := Ground.guard }], guard := some (15, false) }
abbrev qPk5_21 : Oper := { dst := some 33, op := Op.load 29 (Operand.tmp 4), type := 29, pos := "locks.go:60", after := #[{ on := 15, ground := Ground.guard }], guard := some (15, false) }
abbrev qPk5_22 : Oper := { dst := some 34, op := Op.call { callee := Callee.value (Operand.func 54), args := #[Operand.tmp 32, Operand.tmp 33], argTypes := #[29, 29] }, type := 4, pos := "locks.go:60", after := #[{ on := 20, ground := Ground.data }, { on := 21, ground := Ground.data }, { on := 15, ground := Ground.chain }, { on := 15, ground := Ground.guard }], guard := some (15, false) }
abbrev qPk5_23 : Oper := { dst := some 35, op := Op.pick (Operand.tmp 27) (Operand.const (Value.bool true)) (Operand.tmp 34), type := 4, pos := "locks.go:60", after := #[{ on := 15, ground := Ground.data }, { on := 22, ground := Ground.data }, { on := 6, ground := Ground.guard }], guard := some (6, true) }
abbrev qPk5_24 : Oper := { dst := some 36, op := Op.pick (Operand.tmp 18) (Operand.tmp 35) (Operand.const (Value.bool false)), type := 4, pos := "locks.go:60", after := #[{ on := 6, ground := Ground.data }, { on := 23, ground := Ground.data }, { on := 3, ground := Ground.guard }], guard := some (3, false) }
abbrev qPk5_25 : Oper := { dst := some 37, op := Op.pick (Operand.tmp 15) (Operand.const (Value.bool true)) (Operand.tmp 36), type := 4, pos := "locks.go:60", after := #[{ on := 3, ground := Ground.data }, { on := 24, ground := Ground.data }], guard := none }
set_option maxHeartbeats 4000000 in
theorem size_any {h v : Value} {t : Tb} {R : List Rng} (w : World) (ht : TbRd h v t R) (hg : GoodTb t) :
  Calls Try.prog 32 #[.agg (tbCells h v).toArray] w fun e w' => e = .returned (.int .i64 ((t.held.length : Int) + (t.wait.length : Int))) ∧ Below w.heap.size w w' := by
 obtain ⟨a, cap, rfl, hnc, hcm⟩ := ht.1.shape
 obtain ⟨a2, cap2, rfl, hnc2, hcm2⟩ := ht.2.shape
 have h1 := (Hp.start w).put 25 (tbCells (.slice a t.held.length cap) (.slice a2 t.wait.length cap2))
 have HS0 : Hid (Hp w [.ob w.heap.size 25 (tbCells (.slice a t.held.length cap) (.slice a2 t.wait.length cap2))] (w.alloc (.cells (tbCells (.slice a t.held.length cap) (.slice a2 t.wait.length cap2)).toArray 25))) := h1
 have hfew := hg.few
 have hsum : IntKind.i64.wrap ((t.held.length : Int) + (t.wait.length : Int)) = (t.held.length : Int) + (t.wait.length : Int) := IntWalk.i64_in _ (by omega)
 clear h1 ht hg hfew
 go_enter Try.func32, Try.ntmps32
 go_upto_region 1 with (fail)
 generalize (w.alloc (.cells (tbCells (.slice a t.held.length cap) (.slice a2 t.wait.length cap2)).toArray 25)) = w1 at *
 have b0 : w1.cell? ⟨w.heap.size, 0, none⟩ = some (.slice a t.held.length cap) := HS0.out.at 0 rfl 0 rfl
 have b1 : w1.cell? ⟨w.heap.size, 1, none⟩ = some (.slice a2 t.wait.length cap2) := HS0.out.at 0 rfl 1 rfl
 go_wp2_with fail
 go_ret
 exact ⟨rfl, HS0.out.old⟩
set_option maxHeartbeats 8000000 in
theorem validHeld_any (l : List Gr) (v : Value) (R : List Rng) (w : World) (hv : GrRd v l R) (hR : RdIn w R) (hgo : ∀ g ∈ l, GoodGr g) (hl : l.length ≤ 100000) :
  Calls Try.prog 33 #[v] w fun e w' => e = .returned (.bool (heldB l)) ∧ Below w.heap.size w w' := by
 obtain ⟨a, cap, rfl, hnc, hcm, hg0⟩ := SlRd.open hv hR
 have HGe := Lib.hid hgo
 have HNg : Hid (∀ (i : Nat) (x : Gr), l[i]? = some x → grOkB x = false → heldB l = false) := fun i x => h_grant
 have HNl : Hid (∀ (i p : Nat) (x y : Gr), l[i]? = some x → i = p + 1 → l[p]? = some y → ¬ GLt y x → heldB l = false) := fun i p x y => h_less
 have HNc : Hid (∀ (i p : Nat) (x y : Gr), l[i]? = some x → i = p + 1 → l[p]? = some y → Conf y x → heldB l = false) := fun i p x y => h_conf
 have HYes : Hid (HeldOk l → heldB l = true) := heldB_yes
 have HN : Hid ((l.length : Int) ≤ 100000) := Lib.hid (by omega)
 have HS0 := Lib.hid (Hp.start w)
 clear hv hR hgo hl hnc hcm
 obtain ⟨fs, hu⟩ := under_gr
 have HUG := Lib.hid hu
 clear hu
 generalize heldB l = ok at *
 go_enter Try.func33, Try.ntmps33
 go_wp2_with fail
 go_loopw [7] (fun iv wr => ∃ i : Nat, i ≤ l.length ∧ iv = .int .i64 i ∧ HeldOk (l.take i) ∧ Hp w [] wr) (fun iv _ => l.length - (intOf iv).toNat)
 case atStart => exact ⟨0, by omega, rfl, heldOk_nil, HS0.out⟩
 case round =>
  clear HS0
  obtain ⟨i, hi, rfl, hh, hs⟩ := hrel
  have HY := Lib.hid hs
  have HH := Lib.hid hh
  clear hs hh
  by_cases hlt : i < l.length
  ·obtain ⟨g, off, rfl, hr⟩ := hg0.out (by omega)
   have HRg := Lib.hid hr
   obtain ⟨x, hx⟩ : ∃ x, l[i]? = some x := ⟨_, List.getElem?_eq_getElem hlt⟩
   have HXi := Lib.hid hx
   have HGx := Lib.hid (HGe.out x (List.mem_of_getElem? hx))
   have HGr : Hid (∀ W, Calls Try.prog 40 #[.agg (grCells x).toArray] W fun e w' => e = .returned (.bool (grOkB x)) ∧ Below W.heap.size W w') := fun W => pgrant_any x W
   have HOx := Lib.hid (@grOkB_iff x)
   have hNx := HNg.out i x hx
   have hii : (i : Int) < (l.length : Int) := by omega
   have hi0 : (0 : Int) ≤ (i : Int) := by omega
   have hiw : IntKind.i64.wrap ((i : Int) + 1) = (i : Int) + 1 := IntWalk.i64_in _ (by have := HN.out; omega)
   have HLt := Lib.hid hlt
   clear hr hi hx hg0
   go_upto_region 4 with (first | ((with_reducible refine wpList_load_at 29 (.tmp 10) g ((off + i * 4)) (grCells x) HUG.out ?_ ?_ ?_ ?_ ?_); (exact rfl); (exact (elem_rng (HRg.out _ (HY.out).old) HXi.out)); (exact rfl); (exact info_gr); simp only [Act.put, List.setIfInBounds_toArray, List.set_cons_zero, List.set_cons_succ]) | ((with_reducible refine wpList_alloc_ob 29 (grCells grNil) ?_ ?_); (exact alloc_gr); simp only [Act.put, List.setIfInBounds_toArray, List.set_cons_zero, List.set_cons_succ]) | ((with_reducible refine wpList_store_ob 29 (.tmp 4) (wr.heap.size) (grCells x) (grCells grNil) 29 ?_ ?_ ?_ ?_ ?_ ?_ ?_); (exact rfl); (exact rfl); (exact ((HY.out).put 29 (grCells grNil)).get 0 rfl); (exact info_gr); (exact rfl); (exact (oneCell_gr _)); skip))
   have HS21 : Hid (Hp w [.ob (wr.heap.size) 29 (grCells x)] ((wr.alloc (.cells (grCells grNil).toArray 29)).setRow (wr.heap.size) (grCells x).toArray)) := ((HY.out).put 29 (grCells grNil)).row 0 rfl (grCells x)
   clear HY
   generalize ((wr.alloc (.cells (grCells grNil).toArray 29)).setRow (wr.heap.size) (grCells x).toArray) = w21 at *
   generalize wr.heap.size = B21 at *
   generalize grOkB x = gb at *
   cases gb
   case false =>
    have HX := Lib.hid (hNx rfl)
    clear hNx HOx
    refine wp_region_held_drew (S := fun w' => w'.rangeAt B21 0 (grCells x)) (by kernel_rfl) ((fun j v hv => by rw [Nat.zero_add]; exact ((HS21.out).drew).at 0 rfl j hv)) (fun hHeld => ?_)
    refine tk 0 qPk5_0 (some 12) (yieldsIf_load_mid (by rfl) 29 (.tmp 4) rfl B21 (0) rfl (grCells x) _ (fun _ h => h) HUG.out rfl (info_gr)) hHeld ?_
    try simp only [z0, z1, z2, z3]
    refine tn 1 qPk5_1 (fun K hK => ?_)
    go_simp
    go_wp2_with (go_at_call 40; refine (HGr.out _).mono ?_; rintro e w61 ⟨rfl, hb⟩)
    have HS61 := Lib.hid (((HS21.out).drew).calls hb)
    refine hK.out _ _ ((fun j v hv => by rw [Nat.zero_add]; exact (HS61.out).at 0 rfl j hv)) (fun hHeld => ?_)
    clear hK K hb
    try simp only [z0, z1, z2, z3]
    refine tk 2 qPk5_2 (some 14) (v := .bool true) (Or.inl ⟨by rfl, ?q102h⟩) hHeld ?q102r
    case q102h => (intro wq hSw; clear hSw; go_simp; try with_reducible rfl)
    try simp only [z0, z1, z2, z3]
    refine tk 3 qPk5_3 (some 15) (v := .bool true) (Or.inl ⟨by rfl, ?q103h⟩) hHeld ?q103r
    case q103h => (intro wq hSw; clear hSw; go_simp; try with_reducible rfl)
    try simp only [z0, z1, z2, z3]
    refine tk 4 qPk5_4 (some 16) (v := undef) (Or.inr ⟨by rfl, rfl⟩) hHeld ?_
    try simp only [z0, z1, z2, z3]
    refine tk 5 qPk5_5 (some 17) (v := undef) (Or.inr ⟨by rfl, rfl⟩) hHeld ?_
    try simp only [z0, z1, z2, z3]
    refine tk 6 qPk5_6 (some 18) (v := undef) (Or.inr ⟨by rfl, rfl⟩) hHeld ?_
    try simp only [z0, z1, z2, z3]
    refine tk 7 qPk5_7 (some 19) (v := undef) (Or.inr ⟨by rfl, rfl⟩) hHeld ?_
    try simp only [z0, z1, z2, z3]
    refine tk 8 qPk5_8 (some 20) (v := undef) (Or.inr ⟨by rfl, rfl⟩) hHeld ?_
    try simp only [z0, z1, z2, z3]
    refine tk 9 qPk5_9 (some 21) (v := undef) (Or.inr ⟨by rfl, rfl⟩) hHeld ?_
    try simp only [z0, z1, z2, z3]
    refine tk 10 qPk5_10 (some 22) (v := undef) (Or.inr ⟨by rfl, rfl⟩) hHeld ?_
    try simp only [z0, z1, z2, z3]
    refine tk 11 qPk5_11 (some 23) (v := undef) (Or.inr ⟨by rfl, rfl⟩) hHeld ?_
    try simp only [z0, z1, z2, z3]
    refine tk 12 qPk5_12 (some 24) (v := undef) (Or.inr ⟨by rfl, rfl⟩) hHeld ?_
    try simp only [z0, z1, z2, z3]
    refine tn 13 qPk5_13 (fun K hK => ?_)
    rw [if_neg (by exact Bool.false_ne_true)]
    have HS62 := HS61
    refine hK.out _ _ ((fun j v hv => by rw [Nat.zero_add]; exact (HS62.out).at 0 rfl j hv)) (fun hHeld => ?_)
    clear hK K
    try simp only [z0, z1, z2, z3]
    refine tk 14 qPk5_14 (some 26) (v := undef) (Or.inr ⟨by rfl, rfl⟩) hHeld ?_
    try simp only [z0, z1, z2, z3]
    refine tk 15 qPk5_15 (some 27) (v := undef) (Or.inr ⟨by rfl, rfl⟩) hHeld ?_
    try simp only [z0, z1, z2, z3]
    refine tk 16 qPk5_16 (some 28) (v := undef) (Or.inr ⟨by rfl, rfl⟩) hHeld ?_
    try simp only [z0, z1, z2, z3]
    refine tk 17 qPk5_17 (some 29) (v := undef) (Or.inr ⟨by rfl, rfl⟩) hHeld ?_
    try simp only [z0, z1, z2, z3]
    refine tk 18 qPk5_18 (some 30) (v := undef) (Or.inr ⟨by rfl, rfl⟩) hHeld ?_
    try simp only [z0, z1, z2, z3]
    refine tk 19 qPk5_19 (some 31) (v := undef) (Or.inr ⟨by rfl, rfl⟩) hHeld ?_
    try simp only [z0, z1, z2, z3]
    refine tk 20 qPk5_20 (some 32) (v := undef) (Or.inr ⟨by rfl, rfl⟩) hHeld ?_
    try simp only [z0, z1, z2, z3]
    refine tk 21 qPk5_21 (some 33) (v := undef) (Or.inr ⟨by rfl, rfl⟩) hHeld ?_
    try simp only [z0, z1, z2, z3]
    refine tn 22 qPk5_22 (fun K hK => ?_)
    rw [if_neg (by exact Bool.false_ne_true)]
    have HS63 := HS62
    refine hK.out _ _ ((fun j v hv => by rw [Nat.zero_add]; exact (HS63.out).at 0 rfl j hv)) (fun hHeld => ?_)
    clear hK K
    try simp only [z0, z1, z2, z3]
    refine tk 23 qPk5_23 (some 35) (v := undef) (Or.inr ⟨by rfl, rfl⟩) hHeld ?_
    try simp only [z0, z1, z2, z3]
    refine tk 24 qPk5_24 (some 36) (v := undef) (Or.inr ⟨by rfl, rfl⟩) hHeld ?_
    try simp only [z0, z1, z2, z3]
    refine tk 25 qPk5_25 (some 37) (v := ?q123v) (Or.inl ⟨by rfl, ?q123h⟩) hHeld ?q123r
    case q123h => (intro wq hSw; clear hSw; go_simp; try with_reducible rfl)
    try simp only [z0, z1, z2, z3]
    refine wpAnyH_done (by kernel_rfl) ?_ _
    clear hHeld
    go_wp2_with fail
    go_ret
    exact ⟨by rw [HX.out]; rfl, (HS63.out).old⟩
   case true =>
    have HOk1 := Lib.hid (HOx.out.1 rfl)
    clear hNx HOx
    by_cases hi1 : (0 : Int) < (i : Int)
    ·obtain ⟨p, hip⟩ : ∃ p, i = p + 1 := ⟨i - 1, by omega⟩
     have HIp := Lib.hid hip
     have hpw : IntKind.i64.wrap ((i : Int) - 1) = (p : Int) := by rw [show (i : Int) - 1 = (p : Int) by omega]; exact IntWalk.i64_in _ (by have := HN.out; omega)
     have hpi : (p : Int) < (l.length : Int) := by omega
     have hp0 : (0 : Int) ≤ (p : Int) := by omega
     obtain ⟨y, hy⟩ : ∃ y, l[p]? = some y := ⟨_, List.getElem?_eq_getElem (by omega)⟩
     have HYp := Lib.hid hy
     have HGy := Lib.hid (HGe.out y (List.mem_of_getElem? hy))
     have HOr : Hid (∀ W, Calls Try.prog 53 #[.agg (grCells y).toArray, .agg (grCells x).toArray] W fun e w' => e = .returned (.int .i64 (ordI y x)) ∧ Below W.heap.size W w') := fun W => order_any y x W
     have HCf : Hid (∀ W, Calls Try.prog 54 #[.agg (grCells y).toArray, .agg (grCells x).toArray] W fun e w' => e = .returned (.bool (confB y x)) ∧ Below W.heap.size W w') := fun W => pconflict_any y x W HGy.out HGx.out
     have hNx := HNl.out i p x y HXi.out hip hy
     have hNy := HNc.out i p x y HXi.out hip hy
     have hneg := @ordI_neg y x
     have hcf := @confB_iff y x
     have dp : decide ((0 : Int) < (i : Int)) = true := decide_eq_true hi1
     have hi2 : 0 < i := by omega
     clear hip hy hi1
     generalize ordI y x = ov at *
     generalize confB y x = cf at *
     by_cases ho : ov < 0
     ·have HG := Lib.hid (hneg.1 ho)
      have dov : decide (0 ≤ ov) = false := decide_eq_false (by omega)
      have HU : Hid (∀ z, (l.take i).getLast? = some z → GLt z x) := fun z hz => by
       rw [last_take HIp.out HYp.out] at hz
       rw [← Option.some.inj hz]; exact HG.out
      clear hNx hneg ho
      cases cf
      case true =>
       have HX := Lib.hid (hNy (hcf.1 rfl))
       clear hNy hcf
       refine wp_region_held_drew (S := fun w' => w'.rangeAt B21 0 (grCells x) ∧ w'.rangeAt g (off + p * 4) (grCells y)) (by kernel_rfl) (⟨(fun j v hv => by rw [Nat.zero_add]; exact ((HS21.out).drew).at 0 rfl j hv), (elem_rng (HRg.out _ ((HS21.out).drew).old) HYp.out)⟩) (fun hHeld => ?_)
       refine tk 0 qPk5_0 (some 12) (yieldsIf_load_mid (by rfl) 29 (.tmp 4) rfl B21 (0) rfl (grCells x) _ (fun _ h => h.1) HUG.out rfl (info_gr)) hHeld ?_
       try simp only [z0, z1, z2, z3]
       refine tn 1 qPk5_1 (fun K hK => ?_)
       go_simp
       go_wp2_with (go_at_call 40; refine (HGr.out _).mono ?_; rintro e w61 ⟨rfl, hb⟩)
       have HS61 := Lib.hid (((HS21.out).drew).calls hb)
       refine hK.out _ _ (⟨(fun j v hv => by rw [Nat.zero_add]; exact (HS61.out).at 0 rfl j hv), (elem_rng (HRg.out _ (HS61.out).old) HYp.out)⟩) (fun hHeld => ?_)
       clear hK K hb
       try simp only [z0, z1, z2, z3]
       refine tk 2 qPk5_2 (some 14) (v := .bool false) (Or.inl ⟨by rfl, ?q402h⟩) hHeld ?q402r
       case q402h => (intro wq hSw; clear hSw; go_simp; try with_reducible rfl)
       try simp only [z0, z1, z2, z3]
       refine tk 3 qPk5_3 (some 15) (v := ?q403v) (Or.inl ⟨by rfl, ?q403h⟩) hHeld ?q403r
       case q403h => (intro wq hSw; clear hSw; go_simp; try with_reducible rfl)
       try simp only [z0, z1, z2, z3]
       refine tk 4 qPk5_4 (some 16) (v := ?q404v) (Or.inl ⟨by rfl, ?q404h⟩) hHeld ?q404r
       case q404h => (intro wq hSw; clear hSw; go_simp; try with_reducible rfl)
       try simp only [z0, z1, z2, z3]
       refine tk 5 qPk5_5 (some 17) (v := .bool true) (Or.inl ⟨by rfl, ?q405h⟩) hHeld ?q405r
       case q405h => (intro wq hSw; clear hSw; go_simp; try with_reducible rfl)
       try simp only [z0, z1, z2, z3]
       refine tk 6 qPk5_6 (some 18) (v := ?q406v) (Or.inl ⟨by rfl, ?q406h⟩) hHeld ?q406r
       case q406h => (intro wq hSw; clear hSw; go_simp; try with_reducible rfl)
       try simp only [z0, z1, z2, z3]
       refine tk 7 qPk5_7 (some 19) (v := ?q407v) (Or.inl ⟨by rfl, ?q407h⟩) hHeld ?q407r
       case q407h => (intro wq hSw; clear hSw; go_simp; try with_reducible rfl)
       try simp only [z0, z1, z2, z3]
       refine tk 8 qPk5_8 (some 20) (v := ?q408v) (Or.inl ⟨by rfl, ?q408h⟩) hHeld ?q408r
       case q408h => (intro wq hSw; clear hSw; go_simp; try with_reducible rfl)
       try simp only [z0, z1, z2, z3]
       refine tk 9 qPk5_9 (some 21) (v := ?q409v) (Or.inl ⟨by rfl, ?q409h⟩) hHeld ?q409r
       case q409h => (intro wq hSw; clear hSw; go_simp; try with_reducible rfl)
       try simp only [z0, z1, z2, z3]
       refine tk 10 qPk5_10 (some 22) (v := ?q410v) (Or.inl ⟨by rfl, ?q410h⟩) hHeld ?q410r
       case q410h => (intro wq hSw; clear hSw; go_simp; try with_reducible rfl)
       try simp only [z0, z1, z2, z3]
       refine tk 11 qPk5_11 (some 23) (yieldsIf_load_mid (by rfl) 29 (.tmp 22) rfl g (off + p * 4) rfl (grCells y) _ (fun _ h => h.2) HUG.out rfl (info_gr)) hHeld ?_
       try simp only [z0, z1, z2, z3]
       refine tk 12 qPk5_12 (some 24) (yieldsIf_load_mid (by rfl) 29 (.tmp 4) rfl B21 (0) rfl (grCells x) _ (fun _ h => h.1) HUG.out rfl (info_gr)) hHeld ?_
       try simp only [z0, z1, z2, z3]
       refine tn 13 qPk5_13 (fun K hK => ?_)
       go_simp
       go_wp2_with (go_at_call 53; refine (HOr.out _).mono ?_; rintro e w62 ⟨rfl, hb⟩)
       have HS62 := Lib.hid ((HS61.out).calls hb)
       refine hK.out _ _ (⟨(fun j v hv => by rw [Nat.zero_add]; exact (HS62.out).at 0 rfl j hv), (elem_rng (HRg.out _ (HS62.out).old) HYp.out)⟩) (fun hHeld => ?_)
       clear hK K hb
       try simp only [z0, z1, z2, z3]
       refine tk 14 qPk5_14 (some 26) (v := .bool false) (Or.inl ⟨by rfl, ?q413h⟩) hHeld ?q413r
       case q413h => (intro wq hSw; clear hSw; go_simp; try with_reducible rfl)
       try simp only [z0, z1, z2, z3]
       refine tk 15 qPk5_15 (some 27) (v := ?q414v) (Or.inl ⟨by rfl, ?q414h⟩) hHeld ?q414r
       case q414h => (intro wq hSw; clear hSw; go_simp; try with_reducible rfl)
       try simp only [z0, z1, z2, z3]
       refine tk 16 qPk5_16 (some 28) (v := ?q415v) (Or.inl ⟨by rfl, ?q415h⟩) hHeld ?q415r
       case q415h => (intro wq hSw; clear hSw; go_simp; try with_reducible rfl)
       try simp only [z0, z1, z2, z3]
       refine tk 17 qPk5_17 (some 29) (v := ?q416v) (Or.inl ⟨by rfl, ?q416h⟩) hHeld ?q416r
       case q416h => (intro wq hSw; clear hSw; go_simp; try with_reducible rfl)
       try simp only [z0, z1, z2, z3]
       refine tk 18 qPk5_18 (some 30) (v := ?q417v) (Or.inl ⟨by rfl, ?q417h⟩) hHeld ?q417r
       case q417h => (intro wq hSw; clear hSw; go_simp; try with_reducible rfl)
       try simp only [z0, z1, z2, z3]
       refine tk 19 qPk5_19 (some 31) (v := ?q418v) (Or.inl ⟨by rfl, ?q418h⟩) hHeld ?q418r
       case q418h => (intro wq hSw; clear hSw; go_simp; try with_reducible rfl)
       try simp only [z0, z1, z2, z3]
       refine tk 20 qPk5_20 (some 32) (yieldsIf_load_mid (by rfl) 29 (.tmp 31) rfl g (off + p * 4) rfl (grCells y) _ (fun _ h => h.2) HUG.out rfl (info_gr)) hHeld ?_
       try simp only [z0, z1, z2, z3]
       refine tk 21 qPk5_21 (some 33) (yieldsIf_load_mid (by rfl) 29 (.tmp 4) rfl B21 (0) rfl (grCells x) _ (fun _ h => h.1) HUG.out rfl (info_gr)) hHeld ?_
       try simp only [z0, z1, z2, z3]
       refine tn 22 qPk5_22 (fun K hK => ?_)
       go_simp
       go_wp2_with (go_at_call 54; refine (HCf.out _).mono ?_; rintro e w63 ⟨rfl, hb⟩)
       have HS63 := Lib.hid ((HS62.out).calls hb)
       refine hK.out _ _ (⟨(fun j v hv => by rw [Nat.zero_add]; exact (HS63.out).at 0 rfl j hv), (elem_rng (HRg.out _ (HS63.out).old) HYp.out)⟩) (fun hHeld => ?_)
       clear hK K hb
       try simp only [z0, z1, z2, z3]
       refine tk 23 qPk5_23 (some 35) (v := ?q421v) (Or.inl ⟨by rfl, ?q421h⟩) hHeld ?q421r
       case q421h => (intro wq hSw; clear hSw; go_simp; try with_reducible rfl)
       try simp only [z0, z1, z2, z3]
       refine tk 24 qPk5_24 (some 36) (v := ?q422v) (Or.inl ⟨by rfl, ?q422h⟩) hHeld ?q422r
       case q422h => (intro wq hSw; clear hSw; go_simp; try with_reducible rfl)
       try simp only [z0, z1, z2, z3]
       refine tk 25 qPk5_25 (some 37) (v := ?q423v) (Or.inl ⟨by rfl, ?q423h⟩) hHeld ?q423r
       case q423h => (intro wq hSw; clear hSw; go_simp; try with_reducible rfl)
       try simp only [z0, z1, z2, z3]
       refine wpAnyH_done (by kernel_rfl) ?_ _
       clear hHeld
       go_wp2_with fail
       go_ret
       exact ⟨by rw [HX.out]; rfl, (HS63.out).old⟩
      case false =>
       have HA : Hid (∀ z ∈ l.take i, ¬ Conf z x) := adj_free HH.out (last_take HIp.out HYp.out) HG.out (fun h => by have := hcf.2 h; cases this)
       clear hNy hcf
       refine wp_region_held_drew (S := fun w' => w'.rangeAt B21 0 (grCells x) ∧ w'.rangeAt g (off + p * 4) (grCells y)) (by kernel_rfl) (⟨(fun j v hv => by rw [Nat.zero_add]; exact ((HS21.out).drew).at 0 rfl j hv), (elem_rng (HRg.out _ ((HS21.out).drew).old) HYp.out)⟩) (fun hHeld => ?_)
       refine tk 0 qPk5_0 (some 12) (yieldsIf_load_mid (by rfl) 29 (.tmp 4) rfl B21 (0) rfl (grCells x) _ (fun _ h => h.1) HUG.out rfl (info_gr)) hHeld ?_
       try simp only [z0, z1, z2, z3]
       refine tn 1 qPk5_1 (fun K hK => ?_)
       go_simp
       go_wp2_with (go_at_call 40; refine (HGr.out _).mono ?_; rintro e w61 ⟨rfl, hb⟩)
       have HS61 := Lib.hid (((HS21.out).drew).calls hb)
       refine hK.out _ _ (⟨(fun j v hv => by rw [Nat.zero_add]; exact (HS61.out).at 0 rfl j hv), (elem_rng (HRg.out _ (HS61.out).old) HYp.out)⟩) (fun hHeld => ?_)
       clear hK K hb
       try simp only [z0, z1, z2, z3]
       refine tk 2 qPk5_2 (some 14) (v := .bool false) (Or.inl ⟨by rfl, ?q502h⟩) hHeld ?q502r
       case q502h => (intro wq hSw; clear hSw; go_simp; try with_reducible rfl)
       try simp only [z0, z1, z2, z3]
       refine tk 3 qPk5_3 (some 15) (v := ?q503v) (Or.inl ⟨by rfl, ?q503h⟩) hHeld ?q503r
       case q503h => (intro wq hSw; clear hSw; go_simp; try with_reducible rfl)
       try simp only [z0, z1, z2, z3]
       refine tk 4 qPk5_4 (some 16) (v := ?q504v) (Or.inl ⟨by rfl, ?q504h⟩) hHeld ?q504r
       case q504h => (intro wq hSw; clear hSw; go_simp; try with_reducible rfl)
       try simp only [z0, z1, z2, z3]
       refine tk 5 qPk5_5 (some 17) (v := .bool true) (Or.inl ⟨by rfl, ?q505h⟩) hHeld ?q505r
       case q505h => (intro wq hSw; clear hSw; go_simp; try with_reducible rfl)
       try simp only [z0, z1, z2, z3]
       refine tk 6 qPk5_6 (some 18) (v := ?q506v) (Or.inl ⟨by rfl, ?q506h⟩) hHeld ?q506r
       case q506h => (intro wq hSw; clear hSw; go_simp; try with_reducible rfl)
       try simp only [z0, z1, z2, z3]
       refine tk 7 qPk5_7 (some 19) (v := ?q507v) (Or.inl ⟨by rfl, ?q507h⟩) hHeld ?q507r
       case q507h => (intro wq hSw; clear hSw; go_simp; try with_reducible rfl)
       try simp only [z0, z1, z2, z3]
       refine tk 8 qPk5_8 (some 20) (v := ?q508v) (Or.inl ⟨by rfl, ?q508h⟩) hHeld ?q508r
       case q508h => (intro wq hSw; clear hSw; go_simp; try with_reducible rfl)
       try simp only [z0, z1, z2, z3]
       refine tk 9 qPk5_9 (some 21) (v := ?q509v) (Or.inl ⟨by rfl, ?q509h⟩) hHeld ?q509r
       case q509h => (intro wq hSw; clear hSw; go_simp; try with_reducible rfl)
       try simp only [z0, z1, z2, z3]
       refine tk 10 qPk5_10 (some 22) (v := ?q510v) (Or.inl ⟨by rfl, ?q510h⟩) hHeld ?q510r
       case q510h => (intro wq hSw; clear hSw; go_simp; try with_reducible rfl)
       try simp only [z0, z1, z2, z3]
       refine tk 11 qPk5_11 (some 23) (yieldsIf_load_mid (by rfl) 29 (.tmp 22) rfl g (off + p * 4) rfl (grCells y) _ (fun _ h => h.2) HUG.out rfl (info_gr)) hHeld ?_
       try simp only [z0, z1, z2, z3]
       refine tk 12 qPk5_12 (some 24) (yieldsIf_load_mid (by rfl) 29 (.tmp 4) rfl B21 (0) rfl (grCells x) _ (fun _ h => h.1) HUG.out rfl (info_gr)) hHeld ?_
       try simp only [z0, z1, z2, z3]
       refine tn 13 qPk5_13 (fun K hK => ?_)
       go_simp
       go_wp2_with (go_at_call 53; refine (HOr.out _).mono ?_; rintro e w62 ⟨rfl, hb⟩)
       have HS62 := Lib.hid ((HS61.out).calls hb)
       refine hK.out _ _ (⟨(fun j v hv => by rw [Nat.zero_add]; exact (HS62.out).at 0 rfl j hv), (elem_rng (HRg.out _ (HS62.out).old) HYp.out)⟩) (fun hHeld => ?_)
       clear hK K hb
       try simp only [z0, z1, z2, z3]
       refine tk 14 qPk5_14 (some 26) (v := .bool false) (Or.inl ⟨by rfl, ?q513h⟩) hHeld ?q513r
       case q513h => (intro wq hSw; clear hSw; go_simp; try with_reducible rfl)
       try simp only [z0, z1, z2, z3]
       refine tk 15 qPk5_15 (some 27) (v := ?q514v) (Or.inl ⟨by rfl, ?q514h⟩) hHeld ?q514r
       case q514h => (intro wq hSw; clear hSw; go_simp; try with_reducible rfl)
       try simp only [z0, z1, z2, z3]
       refine tk 16 qPk5_16 (some 28) (v := ?q515v) (Or.inl ⟨by rfl, ?q515h⟩) hHeld ?q515r
       case q515h => (intro wq hSw; clear hSw; go_simp; try with_reducible rfl)
       try simp only [z0, z1, z2, z3]
       refine tk 17 qPk5_17 (some 29) (v := ?q516v) (Or.inl ⟨by rfl, ?q516h⟩) hHeld ?q516r
       case q516h => (intro wq hSw; clear hSw; go_simp; try with_reducible rfl)
       try simp only [z0, z1, z2, z3]
       refine tk 18 qPk5_18 (some 30) (v := ?q517v) (Or.inl ⟨by rfl, ?q517h⟩) hHeld ?q517r
       case q517h => (intro wq hSw; clear hSw; go_simp; try with_reducible rfl)
       try simp only [z0, z1, z2, z3]
       refine tk 19 qPk5_19 (some 31) (v := ?q518v) (Or.inl ⟨by rfl, ?q518h⟩) hHeld ?q518r
       case q518h => (intro wq hSw; clear hSw; go_simp; try with_reducible rfl)
       try simp only [z0, z1, z2, z3]
       refine tk 20 qPk5_20 (some 32) (yieldsIf_load_mid (by rfl) 29 (.tmp 31) rfl g (off + p * 4) rfl (grCells y) _ (fun _ h => h.2) HUG.out rfl (info_gr)) hHeld ?_
       try simp only [z0, z1, z2, z3]
       refine tk 21 qPk5_21 (some 33) (yieldsIf_load_mid (by rfl) 29 (.tmp 4) rfl B21 (0) rfl (grCells x) _ (fun _ h => h.1) HUG.out rfl (info_gr)) hHeld ?_
       try simp only [z0, z1, z2, z3]
       refine tn 22 qPk5_22 (fun K hK => ?_)
       go_simp
       go_wp2_with (go_at_call 54; refine (HCf.out _).mono ?_; rintro e w63 ⟨rfl, hb⟩)
       have HS63 := Lib.hid ((HS62.out).calls hb)
       refine hK.out _ _ (⟨(fun j v hv => by rw [Nat.zero_add]; exact (HS63.out).at 0 rfl j hv), (elem_rng (HRg.out _ (HS63.out).old) HYp.out)⟩) (fun hHeld => ?_)
       clear hK K hb
       try simp only [z0, z1, z2, z3]
       refine tk 23 qPk5_23 (some 35) (v := ?q521v) (Or.inl ⟨by rfl, ?q521h⟩) hHeld ?q521r
       case q521h => (intro wq hSw; clear hSw; go_simp; try with_reducible rfl)
       try simp only [z0, z1, z2, z3]
       refine tk 24 qPk5_24 (some 36) (v := ?q522v) (Or.inl ⟨by rfl, ?q522h⟩) hHeld ?q522r
       case q522h => (intro wq hSw; clear hSw; go_simp; try with_reducible rfl)
       try simp only [z0, z1, z2, z3]
       refine tk 25 qPk5_25 (some 37) (v := ?q523v) (Or.inl ⟨by rfl, ?q523h⟩) hHeld ?q523r
       case q523h => (intro wq hSw; clear hSw; go_simp; try with_reducible rfl)
       try simp only [z0, z1, z2, z3]
       refine wpAnyH_done (by kernel_rfl) ?_ _
       clear hHeld
       go_wp2_with fail
       go_roundw
       case rel => exact ⟨i + 1, HLt.out, by go_num, by rw [lk_take_snoc HXi.out]; exact held_snoc HH.out HOk1.out HU.out HA.out, HS63.out.forget (L := [])⟩
       case measure => simp [intOf]; try (have := HLt.out; omega)
     ·have HX := Lib.hid (hNx (fun h => ho (hneg.2 h)))
      have dov : decide (0 ≤ ov) = true := decide_eq_true (by omega)
      clear hNx hNy hneg hcf ho
      refine wp_region_held_drew (S := fun w' => w'.rangeAt B21 0 (grCells x) ∧ w'.rangeAt g (off + p * 4) (grCells y)) (by kernel_rfl) (⟨(fun j v hv => by rw [Nat.zero_add]; exact ((HS21.out).drew).at 0 rfl j hv), (elem_rng (HRg.out _ ((HS21.out).drew).old) HYp.out)⟩) (fun hHeld => ?_)
      refine tk 0 qPk5_0 (some 12) (yieldsIf_load_mid (by rfl) 29 (.tmp 4) rfl B21 (0) rfl (grCells x) _ (fun _ h => h.1) HUG.out rfl (info_gr)) hHeld ?_
      try simp only [z0, z1, z2, z3]
      refine tn 1 qPk5_1 (fun K hK => ?_)
      go_simp
      go_wp2_with (go_at_call 40; refine (HGr.out _).mono ?_; rintro e w61 ⟨rfl, hb⟩)
      have HS61 := Lib.hid (((HS21.out).drew).calls hb)
      refine hK.out _ _ (⟨(fun j v hv => by rw [Nat.zero_add]; exact (HS61.out).at 0 rfl j hv), (elem_rng (HRg.out _ (HS61.out).old) HYp.out)⟩) (fun hHeld => ?_)
      clear hK K hb
      try simp only [z0, z1, z2, z3]
      refine tk 2 qPk5_2 (some 14) (v := .bool false) (Or.inl ⟨by rfl, ?q302h⟩) hHeld ?q302r
      case q302h => (intro wq hSw; clear hSw; go_simp; try with_reducible rfl)
      try simp only [z0, z1, z2, z3]
      refine tk 3 qPk5_3 (some 15) (v := ?q303v) (Or.inl ⟨by rfl, ?q303h⟩) hHeld ?q303r
      case q303h => (intro wq hSw; clear hSw; go_simp; try with_reducible rfl)
      try simp only [z0, z1, z2, z3]
      refine tk 4 qPk5_4 (some 16) (v := ?q304v) (Or.inl ⟨by rfl, ?q304h⟩) hHeld ?q304r
      case q304h => (intro wq hSw; clear hSw; go_simp; try with_reducible rfl)
      try simp only [z0, z1, z2, z3]
      refine tk 5 qPk5_5 (some 17) (v := .bool true) (Or.inl ⟨by rfl, ?q305h⟩) hHeld ?q305r
      case q305h => (intro wq hSw; clear hSw; go_simp; try with_reducible rfl)
      try simp only [z0, z1, z2, z3]
      refine tk 6 qPk5_6 (some 18) (v := ?q306v) (Or.inl ⟨by rfl, ?q306h⟩) hHeld ?q306r
      case q306h => (intro wq hSw; clear hSw; go_simp; try with_reducible rfl)
      try simp only [z0, z1, z2, z3]
      refine tk 7 qPk5_7 (some 19) (v := ?q307v) (Or.inl ⟨by rfl, ?q307h⟩) hHeld ?q307r
      case q307h => (intro wq hSw; clear hSw; go_simp; try with_reducible rfl)
      try simp only [z0, z1, z2, z3]
      refine tk 8 qPk5_8 (some 20) (v := ?q308v) (Or.inl ⟨by rfl, ?q308h⟩) hHeld ?q308r
      case q308h => (intro wq hSw; clear hSw; go_simp; try with_reducible rfl)
      try simp only [z0, z1, z2, z3]
      refine tk 9 qPk5_9 (some 21) (v := ?q309v) (Or.inl ⟨by rfl, ?q309h⟩) hHeld ?q309r
      case q309h => (intro wq hSw; clear hSw; go_simp; try with_reducible rfl)
      try simp only [z0, z1, z2, z3]
      refine tk 10 qPk5_10 (some 22) (v := ?q310v) (Or.inl ⟨by rfl, ?q310h⟩) hHeld ?q310r
      case q310h => (intro wq hSw; clear hSw; go_simp; try with_reducible rfl)
      try simp only [z0, z1, z2, z3]
      refine tk 11 qPk5_11 (some 23) (yieldsIf_load_mid (by rfl) 29 (.tmp 22) rfl g (off + p * 4) rfl (grCells y) _ (fun _ h => h.2) HUG.out rfl (info_gr)) hHeld ?_
      try simp only [z0, z1, z2, z3]
      refine tk 12 qPk5_12 (some 24) (yieldsIf_load_mid (by rfl) 29 (.tmp 4) rfl B21 (0) rfl (grCells x) _ (fun _ h => h.1) HUG.out rfl (info_gr)) hHeld ?_
      try simp only [z0, z1, z2, z3]
      refine tn 13 qPk5_13 (fun K hK => ?_)
      go_simp
      go_wp2_with (go_at_call 53; refine (HOr.out _).mono ?_; rintro e w62 ⟨rfl, hb⟩)
      have HS62 := Lib.hid ((HS61.out).calls hb)
      refine hK.out _ _ (⟨(fun j v hv => by rw [Nat.zero_add]; exact (HS62.out).at 0 rfl j hv), (elem_rng (HRg.out _ (HS62.out).old) HYp.out)⟩) (fun hHeld => ?_)
      clear hK K hb
      try simp only [z0, z1, z2, z3]
      refine tk 14 qPk5_14 (some 26) (v := .bool true) (Or.inl ⟨by rfl, ?q313h⟩) hHeld ?q313r
      case q313h => (intro wq hSw; clear hSw; go_simp; try with_reducible rfl)
      try simp only [z0, z1, z2, z3]
      refine tk 15 qPk5_15 (some 27) (v := ?q314v) (Or.inl ⟨by rfl, ?q314h⟩) hHeld ?q314r
      case q314h => (intro wq hSw; clear hSw; go_simp; try with_reducible rfl)
      try simp only [z0, z1, z2, z3]
      refine tk 16 qPk5_16 (some 28) (v := undef) (Or.inr ⟨by rfl, rfl⟩) hHeld ?_
      try simp only [z0, z1, z2, z3]
      refine tk 17 qPk5_17 (some 29) (v := undef) (Or.inr ⟨by rfl, rfl⟩) hHeld ?_
      try simp only [z0, z1, z2, z3]
      refine tk 18 qPk5_18 (some 30) (v := undef) (Or.inr ⟨by rfl, rfl⟩) hHeld ?_
      try simp only [z0, z1, z2, z3]
      refine tk 19 qPk5_19 (some 31) (v := undef) (Or.inr ⟨by rfl, rfl⟩) hHeld ?_
      try simp only [z0, z1, z2, z3]
      refine tk 20 qPk5_20 (some 32) (v := undef) (Or.inr ⟨by rfl, rfl⟩) hHeld ?_
      try simp only [z0, z1, z2, z3]
      refine tk 21 qPk5_21 (some 33) (v := undef) (Or.inr ⟨by rfl, rfl⟩) hHeld ?_
      try simp only [z0, z1, z2, z3]
      refine tn 22 qPk5_22 (fun K hK => ?_)
      rw [if_neg (by exact Bool.false_ne_true)]
      have HS63 := HS62
      refine hK.out _ _ (⟨(fun j v hv => by rw [Nat.zero_add]; exact (HS63.out).at 0 rfl j hv), (elem_rng (HRg.out _ (HS63.out).old) HYp.out)⟩) (fun hHeld => ?_)
      clear hK K
      try simp only [z0, z1, z2, z3]
      refine tk 23 qPk5_23 (some 35) (v := ?q321v) (Or.inl ⟨by rfl, ?q321h⟩) hHeld ?q321r
      case q321h => (intro wq hSw; clear hSw; go_simp; try with_reducible rfl)
      try simp only [z0, z1, z2, z3]
      refine tk 24 qPk5_24 (some 36) (v := ?q322v) (Or.inl ⟨by rfl, ?q322h⟩) hHeld ?q322r
      case q322h => (intro wq hSw; clear hSw; go_simp; try with_reducible rfl)
      try simp only [z0, z1, z2, z3]
      refine tk 25 qPk5_25 (some 37) (v := ?q323v) (Or.inl ⟨by rfl, ?q323h⟩) hHeld ?q323r
      case q323h => (intro wq hSw; clear hSw; go_simp; try with_reducible rfl)
      try simp only [z0, z1, z2, z3]
      refine wpAnyH_done (by kernel_rfl) ?_ _
      clear hHeld
      go_wp2_with fail
      go_ret
      exact ⟨by rw [HX.out]; rfl, (HS63.out).old⟩
    ·obtain rfl : i = 0 := by omega
     have HU : Hid (∀ z, (l.take 0).getLast? = some z → GLt z x) := fun z hz => by simp at hz
     have HA : Hid (∀ z ∈ l.take 0, ¬ Conf z x) := fun z hz => by simp at hz
     have dp : decide ((0 : Int) < ((0 : Nat) : Int)) = false := rfl
     clear hi1
     refine wp_region_held_drew (S := fun w' => w'.rangeAt B21 0 (grCells x)) (by kernel_rfl) ((fun j v hv => by rw [Nat.zero_add]; exact ((HS21.out).drew).at 0 rfl j hv)) (fun hHeld => ?_)
     refine tk 0 qPk5_0 (some 12) (yieldsIf_load_mid (by rfl) 29 (.tmp 4) rfl B21 (0) rfl (grCells x) _ (fun _ h => h) HUG.out rfl (info_gr)) hHeld ?_
     try simp only [z0, z1, z2, z3]
     refine tn 1 qPk5_1 (fun K hK => ?_)
     go_simp
     go_wp2_with (go_at_call 40; refine (HGr.out _).mono ?_; rintro e w61 ⟨rfl, hb⟩)
     have HS61 := Lib.hid (((HS21.out).drew).calls hb)
     refine hK.out _ _ ((fun j v hv => by rw [Nat.zero_add]; exact (HS61.out).at 0 rfl j hv)) (fun hHeld => ?_)
     clear hK K hb
     try simp only [z0, z1, z2, z3]
     refine tk 2 qPk5_2 (some 14) (v := .bool false) (Or.inl ⟨by rfl, ?q202h⟩) hHeld ?q202r
     case q202h => (intro wq hSw; clear hSw; go_simp; try with_reducible rfl)
     try simp only [z0, z1, z2, z3]
     refine tk 3 qPk5_3 (some 15) (v := ?q203v) (Or.inl ⟨by rfl, ?q203h⟩) hHeld ?q203r
     case q203h => (intro wq hSw; clear hSw; go_simp; try with_reducible rfl)
     try simp only [z0, z1, z2, z3]
     refine tk 4 qPk5_4 (some 16) (v := ?q204v) (Or.inl ⟨by rfl, ?q204h⟩) hHeld ?q204r
     case q204h => (intro wq hSw; clear hSw; go_simp; try with_reducible rfl)
     try simp only [z0, z1, z2, z3]
     refine tk 5 qPk5_5 (some 17) (v := .bool false) (Or.inl ⟨by rfl, ?q205h⟩) hHeld ?q205r
     case q205h => (intro wq hSw; clear hSw; go_simp; try with_reducible rfl)
     try simp only [z0, z1, z2, z3]
     refine tk 6 qPk5_6 (some 18) (v := ?q206v) (Or.inl ⟨by rfl, ?q206h⟩) hHeld ?q206r
     case q206h => (intro wq hSw; clear hSw; go_simp; try with_reducible rfl)
     try simp only [z0, z1, z2, z3]
     refine tk 7 qPk5_7 (some 19) (v := undef) (Or.inr ⟨by rfl, rfl⟩) hHeld ?_
     try simp only [z0, z1, z2, z3]
     refine tk 8 qPk5_8 (some 20) (v := undef) (Or.inr ⟨by rfl, rfl⟩) hHeld ?_
     try simp only [z0, z1, z2, z3]
     refine tk 9 qPk5_9 (some 21) (v := undef) (Or.inr ⟨by rfl, rfl⟩) hHeld ?_
     try simp only [z0, z1, z2, z3]
     refine tk 10 qPk5_10 (some 22) (v := undef) (Or.inr ⟨by rfl, rfl⟩) hHeld ?_
     try simp only [z0, z1, z2, z3]
     refine tk 11 qPk5_11 (some 23) (v := undef) (Or.inr ⟨by rfl, rfl⟩) hHeld ?_
     try simp only [z0, z1, z2, z3]
     refine tk 12 qPk5_12 (some 24) (v := undef) (Or.inr ⟨by rfl, rfl⟩) hHeld ?_
     try simp only [z0, z1, z2, z3]
     refine tn 13 qPk5_13 (fun K hK => ?_)
     rw [if_neg (by exact Bool.false_ne_true)]
     have HS62 := HS61
     refine hK.out _ _ ((fun j v hv => by rw [Nat.zero_add]; exact (HS62.out).at 0 rfl j hv)) (fun hHeld => ?_)
     clear hK K
     try simp only [z0, z1, z2, z3]
     refine tk 14 qPk5_14 (some 26) (v := undef) (Or.inr ⟨by rfl, rfl⟩) hHeld ?_
     try simp only [z0, z1, z2, z3]
     refine tk 15 qPk5_15 (some 27) (v := undef) (Or.inr ⟨by rfl, rfl⟩) hHeld ?_
     try simp only [z0, z1, z2, z3]
     refine tk 16 qPk5_16 (some 28) (v := undef) (Or.inr ⟨by rfl, rfl⟩) hHeld ?_
     try simp only [z0, z1, z2, z3]
     refine tk 17 qPk5_17 (some 29) (v := undef) (Or.inr ⟨by rfl, rfl⟩) hHeld ?_
     try simp only [z0, z1, z2, z3]
     refine tk 18 qPk5_18 (some 30) (v := undef) (Or.inr ⟨by rfl, rfl⟩) hHeld ?_
     try simp only [z0, z1, z2, z3]
     refine tk 19 qPk5_19 (some 31) (v := undef) (Or.inr ⟨by rfl, rfl⟩) hHeld ?_
     try simp only [z0, z1, z2, z3]
     refine tk 20 qPk5_20 (some 32) (v := undef) (Or.inr ⟨by rfl, rfl⟩) hHeld ?_
     try simp only [z0, z1, z2, z3]
     refine tk 21 qPk5_21 (some 33) (v := undef) (Or.inr ⟨by rfl, rfl⟩) hHeld ?_
     try simp only [z0, z1, z2, z3]
     refine tn 22 qPk5_22 (fun K hK => ?_)
     rw [if_neg (by exact Bool.false_ne_true)]
     have HS63 := HS62
     refine hK.out _ _ ((fun j v hv => by rw [Nat.zero_add]; exact (HS63.out).at 0 rfl j hv)) (fun hHeld => ?_)
     clear hK K
     try simp only [z0, z1, z2, z3]
     refine tk 23 qPk5_23 (some 35) (v := undef) (Or.inr ⟨by rfl, rfl⟩) hHeld ?_
     try simp only [z0, z1, z2, z3]
     refine tk 24 qPk5_24 (some 36) (v := ?q222v) (Or.inl ⟨by rfl, ?q222h⟩) hHeld ?q222r
     case q222h => (intro wq hSw; clear hSw; go_simp; try with_reducible rfl)
     try simp only [z0, z1, z2, z3]
     refine tk 25 qPk5_25 (some 37) (v := ?q223v) (Or.inl ⟨by rfl, ?q223h⟩) hHeld ?q223r
     case q223h => (intro wq hSw; clear hSw; go_simp; try with_reducible rfl)
     try simp only [z0, z1, z2, z3]
     refine wpAnyH_done (by kernel_rfl) ?_ _
     clear hHeld
     go_wp2_with fail
     go_roundw
     case rel => exact ⟨0 + 1, HLt.out, by go_num, by rw [lk_take_snoc HXi.out]; exact held_snoc HH.out HOk1.out HU.out HA.out, HS63.out.forget (L := [])⟩
     case measure => simp [intOf]; try (have := HLt.out; omega)
  ·obtain rfl : i = l.length := by omega
   have HX := Lib.hid (HYes.out (by have := HH.out; rwa [List.take_length] at this))
   clear hlt hi HH
   go_wp2_with fail
   go_ret
   exact ⟨by rw [HX.out]; rfl, HY.out.old⟩
end Go.Proofs.Ytcnaalbpbalgdaa
/- a set of numbers in a map that the walk has made: which numbers it has -/
namespace Go.Proofs.Ytcnaalbpbalgdaa
open Go.RowKit
open Go.Maps (Keyed)
set_option maxRecDepth 20000

theorem lawI : Keyed Try.prog 3 := Maps.int_keyed Try.underlying3
theorem zeroB (w : World) : (zeroValue 4).run Try.prog w = .ok (.bool false) w := by kernel_rfl
theorem run_makeSet (n : Int) (w : World) : (Instr.makeMap 69 (some (.int .i64 n))).run Try.prog w = .ok (.map (some w.heap.size)) (w.alloc (.map #[] 0)) := by
  simp [Instr.makeMap, run_underlying Try.underlying69, asInt, asIntOf]
def SeenM (W : World) (b n : Nat) (l : List Int) : Prop :=
  ∃ D : DataW Unit, W.ownsMap Try.prog 3 (plainElem Try.prog 4) b n D ∧ ∀ x, (Lit.int .i64 x).wf = true → D.atKey (.int .i64 x) (.lit (.bool false)) = .lit (.bool (decide (x ∈ l)))
theorem SeenM.made (w : World) : SeenM (w.alloc (.map #[] 0)) w.heap.size 0 [] := ⟨_, World.ownsMap_made w _ _ _, fun x _ => by
  rw [WideAt.atKey_none _ (by simp)]; simp⟩
theorem SeenM.kept {w w' : World} {b n : Nat} {l : List Int} {row : Option Nat} (h : SeenM w b n l) (hg : w.grownBy w' row) (hne : some b ≠ row) : SeenM w' b n l := by
  obtain ⟨D, h1, h2⟩ := h
  exact ⟨D, h1.kept hg hne, h2⟩
theorem SeenM.lt {w : World} {b n : Nat} {l : List Int} (h : SeenM w b n l) : b < w.heap.size := by
  obtain ⟨D, h1, _⟩ := h
  exact h1.lt
theorem SeenM.below {w w' : World} {b n : Nat} {l : List Int} (h : SeenM w b n l) (hb : Below w.heap.size w w') : SeenM w' b n l := h.kept (row := none) ⟨hb.os, hb.tape, hb.output, hb.size, fun k hk _ => hb.block k hk⟩ (by simp)
theorem seen_look {w : World} {b n : Nat} {l : List Int} {x : Int} {c : Bool} (h : SeenM w b n l) (hx : (Lit.int .i64 x).wf = true) (hc : decide (x ∈ l) = c) : Sem.run Try.prog (Instr.lookup 69 (.map (some b)) (.int .i64 x) false) w = .ok (.bool c) w := by
  obtain ⟨D, h1, h2⟩ := h
  obtain ⟨v, ps, hr, hv⟩ := h1.lookup lawI Try.underlying69 (zeroB w) (plainElem_bool Try.underlying4 false) (Maps.keyOf_int_mk Try.underlying3 hx)
  rw [h2 x hx, hc] at hv
  have hu := Try.underlying4
  unfold plainElem at hv
  rw [hu] at hv
  cases v <;> simp at hv
  rw [hr, hv.1]
theorem seen_store {w : World} {b n : Nat} {l : List Int} {x : Int} (h : SeenM w b n l) (hn : n < maxLen) (hx : (Lit.int .i64 x).wf = true) : ∃ w', (Instr.mapUpdate 69 (.map (some b)) (.int .i64 x) (.bool true)).run Try.prog w = .ok () w' ∧ SeenM w' b (n + 1) (l ++ [x]) ∧ w.grownBy w' (some b) := by
  obtain ⟨D, h1, h2⟩ := h
  obtain ⟨w', hr, ho, hg⟩ := h1.update lawI Try.underlying69 hn (Maps.keyOf_int_mk Try.underlying3 hx) (plainElem_bool Try.underlying4 true)
  refine ⟨w', hr, ⟨_, ho, fun y hy => ?_⟩, hg⟩
  by_cases e : y = x
  · subst e
    rw [Maps.atKey_put_same h1.isMap (by simp [WideAt.IsKeyLit])]
    simp
  · rw [Maps.atKey_put_other (by intro h; exact e (by injection h)), h2 y hy]
    simp [e]
end Go.Proofs.Ytcnaalbpbalgdaa
/- the program's validWaiting (locks) -/
namespace Go.Proofs.Ytcnaalbpbalgdaa
open Go.RowKit
open Go.Act renaming put → z0
open List renaming setIfInBounds_toArray → z1, set_cons_zero → z2, set_cons_succ → z3
set_option maxRecDepth 20000
set_option linter.unusedSimpArgs false
set_option linter.unusedVariables false

noncomputable def waitB (h l : List Gr) : Bool := @decide (WaitOk h l) (Classical.propDecidable _)
theorem waitB_iff {h l : List Gr} : waitB h l = true ↔ WaitOk h l := @decide_eq_true_iff _ (Classical.propDecidable _)
theorem waitB_no {h l : List Gr} (k : ¬ WaitOk h l) : waitB h l = false := by
 cases e : waitB h l with
 | false => rfl
 | true => exact absurd (waitB_iff.1 e) k
theorem w_grant {h l : List Gr} {i : Nat} {x : Gr} (hx : l[i]? = some x) (k : grOkB x = false) : waitB h l = false := waitB_no fun q => by
 have := grOkB_iff.2 (q.ok x (List.mem_of_getElem? hx)).1; rw [k] at this; cases this
theorem w_mode {h l : List Gr} {i : Nat} {x : Gr} (hx : l[i]? = some x) (k : x.mode ≤ modeR h x.tx x.page x.slot) : waitB h l = false := waitB_no fun q => by
 have h2 : modeR h x.tx x.page x.slot < x.mode := (q.ok x (List.mem_of_getElem? hx)).2
 omega
theorem w_two {h l : List Gr} {i : Nat} {x : Gr} (hx : l[i]? = some x) (k : x.tx ∈ (l.take i).map Gr.tx) : waitB h l = false := waitB_no fun q => by
 obtain ⟨y, hy, he⟩ := List.mem_map.1 k
 obtain ⟨p, hp, rfl⟩ := List.mem_take_iff_getElem.1 hy
 obtain ⟨hi, rfl⟩ := List.getElem?_eq_some_iff.1 hx
 exact List.pairwise_iff_getElem.1 q.one p i (by omega) hi (by omega) he
theorem wpList_store_seen {ops : Array Oper} {rest : List Oper} {a : Act} {w : World} {Q : Exit → Act → World → Prop} {ty : TypeId} {pos : String} {aft : Array Edge} (m x : Operand) {b n : Nat} {l : List Int} {y : Int} (hs : SeenM w b n l) (hn : n < maxLen) (hy : (Lit.int .i64 y).wf = true)
  (hm : a.eval m = .map (some b)) (hx : a.eval x = .int .i64 y) (hk : ∀ w', SeenM w' b (n + 1) (l ++ [y]) → w.grownBy w' (some b) → wpList Try.prog ops Q rest a w') :
  wpList Try.prog ops Q ({ dst := none, op := .mapUpdate 69 m x (.const (.bool true)), type := ty, pos := pos, after := aft, guard := none } :: rest) a w := by
 refine wpList_plain rfl fun K' hK' => ?_
 obtain ⟨w', hrun, r1, r2⟩ := seen_store hs hn hy
 have hc : a.eval (.const (.bool true)) = .bool true := rfl
 unfold Oper.wp
 simp [execOp, hm, hx, hc, hrun, Result.andThen]
 exact hK' _ _ (hk w' r1 r2)
def BelW (w W : World) : Prop := Below w.heap.size w W
/-- how the loop stands before its round i -/
structure WtRel (w : World) (cs : List Value) (l : List Gr) (i : Nat) (W : World) : Prop where
 old : Below w.heap.size w W
 box : W.heap[w.heap.size]? = some (.cells cs.toArray 25 (0, 0))
 seen : SeenM W (w.heap.size + 1) i ((l.take i).map Gr.tx)
theorem WtRel.next {w W V U : World} {cs : List Value} {l : List Gr} {i : Nat} {x : Gr} (h : WtRel w cs l i W) (hx : l[i]? = some x) (hb : Below W.heap.size W V) (hs : SeenM U (w.heap.size + 1) (i + 1) ((l.take i).map Gr.tx ++ [x.tx])) (hg : V.grownBy U (some (w.heap.size + 1))) : WtRel w cs l (i + 1) U := by
 have h1 := (Array.getElem?_eq_some_iff.1 h.box).1
 have h2 := h.old.trans (hb.mono h.old.size)
 refine ⟨h2.grown hg h2.size (fun k hk => by obtain rfl := Option.some.inj hk; omega), ?_, ?_⟩
 ·rw [hg.block _ (Nat.lt_of_lt_of_le h1 hb.size) (by simp), hb.block _ h1]; exact h.box
 ·rw [lk_take_snoc hx, List.map_append]; exact hs
abbrev qPk6_0 : Oper := { dst := some 17, op := Op.load 29 (Operand.tmp 5), type := 29, pos := "locks.go:70", after := #[], guard := none }
abbrev qPk6_1 : Oper := { dst := some 18, op := Op.call { callee := Callee.value (Operand.func 40), args := #[Operand.tmp 17], argTypes := #[29] }, type := 4, pos := "locks.go:70", after := #[{ on := 0, ground := Ground.data }], guard := none }
abbrev qPk6_2 : Oper := { dst := some 19, op := Op.unOp UnOp.not 4 (Operand.tmp 18), type := 4, pos := "locks.go:70", after := #[{ on := 1, ground := Ground.data }], guard := none }
abbrev qPk6_3 : Oper := { dst := some 20, op := Op.move (Operand.tmp 19), type := 4, pos := "locks.go:70", after := #[{ on := 2, ground := Ground.data }, { on := 1, ground := Ground.chain }], guard := none }
abbrev qPk6_4 : Oper := { dst := some 21, op := Op.move (Operand.tmp 3), type := 69, pos := "locks.go:70", after := #[{ on := 3, ground := Ground.guard }], guard := some (3, false) }
abbrev qPk6_5 : Oper := { dst := some 22, op := Op.fieldAddr 29 (Operand.tmp 5) 0, type := 0, pos := "locks.go:70", after := #[{ on := 3, ground := Ground.guard }], guard := some (3, false) }
abbrev qPk6_6 : Oper := { dst := some 23, op := Op.load 3 (Operand.tmp 22), type := 3, pos := "locks.go:70", after := #[{ on := 5, ground := Ground.data }, { on := 3, ground := Ground.guard }], guard := some (3, false) }
abbrev qPk6_7 : Oper := { dst := some 24, op := Op.lookup 69 (Operand.tmp 21) (Operand.tmp 23) false, type := 4, pos := "locks.go:70", after := #[{ on := 4, ground := Ground.data }, { on := 6, ground := Ground.data }, { on := 3, ground := Ground.guard }], guard := some (3, false) }
abbrev qPk6_8 : Oper := { dst := some 25, op := Op.pick (Operand.tmp 20) (Operand.const (Value.bool true)) (Operand.tmp 24), type := 4, pos := "locks.go:70", after := #[{ on := 3, ground := Ground.data }, { on := 7, ground := Ground.data }], guard := none }
abbrev qPk6_9 : Oper := { dst := some 26, op := Op.move (Operand.tmp 25), type := 4, pos := "locks.go:70", after := #[{ on := 8, ground := Ground.data }, { on := 3, ground := Ground.chain }], guard := none }
abbrev qPk6_10 : Oper := { dst := some 27, op := Op.fieldAddr 25 (Operand.tmp 1) 0, type := 0, pos := "locks.go:70", after := #[{ on := 9, ground := Ground.guard }], guard := some (9, false) }
abbrev qPk6_11 : Oper := { dst := some 28, op := Op.load 23 (Operand.tmp 27), type := 23, pos := "locks.go:70", after := #[{ on := 10, ground := Ground.data }, { on := 9, ground := Ground.guard }], guard := some (9, false) }
abbrev qPk6_12 : Oper := { dst := some 29, op := Op.fieldAddr 29 (Operand.tmp 5) 0, type := 0, pos := "locks.go:70", after := #[{ on := 9, ground := Ground.guard }], guard := some (9, false) }
abbrev qPk6_13 : Oper := { dst := some 30, op := Op.load 3 (Operand.tmp 29), type := 3, pos := "locks.go:70", after := #[{ on := 12, ground := Ground.data }, { on := 9, ground := Ground.guard }], guard := some (9, false) }
abbrev qPk6_14 : Oper := { dst := some 31, op := Op.fieldAddr 29 (Operand.tmp 5) 1, type := 0, pos := "locks.go:70", after := #[{ on := 9, ground := Ground.guard }], guard := some (9, false) }
abbrev qPk6_15 : Oper := { dst := some 32, op := Op.load 27 (Operand.tmp 31), type := 27, pos := "locks.go:70", after := #[{ on := 14, ground := Ground.data }, { on := 9, ground := Ground.guard }], guard := some (9, false) }
abbrev qPk6_16 : Oper := { dst := some 34, op := Op.fieldAddr 29 (Operand.tmp 5) 2, type := 0, pos := "locks.go:70", after := #[{ on := 9, ground := Ground.guard }], guard := some (9, false) }
abbrev qPk6_17 : Oper := { dst := some 35, op := Op.load 3 (Operand.tmp 34), type := 3, pos := "locks.go:70", after := #[{ on := 17, ground := Ground.data }, { on := 9, ground := Ground.guard }], guard := some (9, false) }
abbrev qPk6_18 : Oper := { dst := some 33, op := Op.call { callee := Callee.value (Operand.func 41), args := #[Operand.tmp 28, Operand.tmp 30, Operand.tmp 32], argTypes := #[23, 3, 27] }, type := 3, pos := "locks.go:70", after := #[{ on := 11, ground := Ground.data }, { on := 13, ground := Ground.data }, { on := 15, ground := Ground.data }, { on := 9, ground := Ground.chain }, { on := 9, ground := Ground.guard }], guard := some (9, false) }
abbrev qPk6_19 : Oper := { dst := some 36, op := Op.binOp BinOp.geq 3 (Operand.tmp 33) (Operand.tmp 35) 3, type := 4, pos := "locks.go:70", after := #[{ on := 16, ground := Ground.data }, { on := 18, ground := Ground.data }, { on := 9, ground := Ground.guard }], guard := some (9, false) }
abbrev qPk6_20 : Oper := { dst := some 37, op := Op.pick (Operand.tmp 26) (Operand.const (Value.bool true)) (Operand.tmp 36), type := 4, pos := "locks.go:70", after := #[{ on := 9, ground := Ground.data }, { on := 19, ground := Ground.data }], guard := none }
set_option maxHeartbeats 8000000 in
theorem validWaiting_any {h v : Value} {t : Tb} {R : List Rng} (w : World) (ht : TbRd h v t R) (hR : RdIn w R) (hg : GoodTb t) (hh : HeldOk t.held) :
  Calls Try.prog 34 #[.agg (tbCells h v).toArray] w fun e w' => e = .returned (.bool (waitB t.held t.wait)) ∧ Below w.heap.size w w' := by
 obtain ⟨a, cap, rfl, hnc, hcm⟩ := ht.1.shape
 have HMo : Hid (∀ tx k W, Below w.heap.size w W → Calls Try.prog 41 #[.slice a t.held.length cap, .int .i64 tx, .agg (lkCells k).toArray] W fun e w' => e = .returned (.int .i64 (modeR t.held tx k.page k.slot)) ∧ Below W.heap.size W w') := fun tx k W hb => pmode_any tx k t.held _ R W hh.up ht.1 (hR.below hb) (by have := hg.few; omega)
 obtain ⟨a2, cap2, rfl, hnc2, hcm2, hg0⟩ := SlRd.open ht.2 hR
 have HGe := Lib.hid hg.wait
 have HN : Hid (t.wait.length ≤ 100000) := hg.few.2
 have HBx : Hid (∃ cs, cs = tbCells (.slice a t.held.length cap) (.slice a2 t.wait.length cap2)) := ⟨_, rfl⟩
 have h1 := (Hp.start w).put 25 (tbCells (.slice a t.held.length cap) (.slice a2 t.wait.length cap2))
 have hbx : (w.alloc (.cells (tbCells (.slice a t.held.length cap) (.slice a2 t.wait.length cap2)).toArray 25)).heap[w.heap.size]? = some (.cells (tbCells (.slice a t.held.length cap) (.slice a2 t.wait.length cap2)).toArray 25 (0, 0)) := h1.get 0 rfl
 have HW0 : Hid (WtRel w (tbCells (.slice a t.held.length cap) (.slice a2 t.wait.length cap2)) t.wait 0 ((w.alloc (.cells (tbCells (.slice a t.held.length cap) (.slice a2 t.wait.length cap2)).toArray 25)).alloc (.map #[] 0))) := by
  refine ⟨h1.old.alloc h1.old.size _, ?_, ?_⟩
  ·have hlt := (Array.getElem?_eq_some_iff.1 hbx).1
   rw [((Below.refl _ _).alloc (Nat.le_refl _) (.map #[] 0) : Below _ (w.alloc (.cells (tbCells (.slice a t.held.length cap) (.slice a2 t.wait.length cap2)).toArray 25)) _).block _ hlt]
   exact hbx
  ·have := SeenM.made (w.alloc (.cells (tbCells (.slice a t.held.length cap) (.slice a2 t.wait.length cap2)).toArray 25))
   rw [World.size_alloc] at this
   exact this
 have hmk := run_makeSet
 have b0' : (w.alloc (.cells (tbCells (.slice a t.held.length cap) (.slice a2 t.wait.length cap2)).toArray 25)).cell? ⟨w.heap.size, 1, none⟩ = some (.slice a2 t.wait.length cap2) := h1.at 0 rfl 1 rfl
 have HNg : Hid (∀ (i : Nat) (x : Gr), t.wait[i]? = some x → grOkB x = false → waitB t.held t.wait = false) := fun i x => w_grant
 have HNm : Hid (∀ (i : Nat) (x : Gr), t.wait[i]? = some x → x.mode ≤ modeR t.held x.tx x.page x.slot → waitB t.held t.wait = false) := fun i x => w_mode
 have HNt : Hid (∀ (i : Nat) (x : Gr), t.wait[i]? = some x → x.tx ∈ (t.wait.take i).map Gr.tx → waitB t.held t.wait = false) := fun i x => w_two
 have HYes : Hid (WaitOk t.held t.wait → waitB t.held t.wait = true) := waitB_iff.2
 have hwsz : (w.alloc (.cells (tbCells (.slice a t.held.length cap) (.slice a2 t.wait.length cap2)).toArray 25)).heap.size = w.heap.size + 1 := by simp
 clear h1 hbx ht hR hg hh hnc hcm hnc2 hcm2 HBx
 obtain ⟨fs, hu⟩ := under_gr
 have HUG := Lib.hid hu
 clear hu
 obtain ⟨fs2, hu2⟩ := under_lk
 have HUK := Lib.hid hu2
 clear hu2
 generalize waitB t.held t.wait = ok at *
 go_enter Try.func34, Try.ntmps34
 go_upto_region 1 with (fail)
 generalize (w.alloc (.cells (tbCells (.slice a t.held.length cap) (.slice a2 t.wait.length cap2)).toArray 25)) = w1 at *
 go_upto_region 2 with (fail)
 clear hmk b0' hwsz
 generalize w1.alloc (.map #[] 0) = w2 at *
 have b1 : w2.cell? ⟨w.heap.size, 1, none⟩ = some (.slice a2 t.wait.length cap2) := by rw [cell_of_row w2 _ 1 _ _ _ HW0.out.box]; rfl
 go_wp2_with fail
 clear b1
 go_loopw [13] (fun iv wr => ∃ i : Nat, i ≤ t.wait.length ∧ iv = .int .i64 i ∧ WaitOk t.held (t.wait.take i) ∧ WtRel w (tbCells (.slice a t.held.length cap) (.slice a2 t.wait.length cap2)) t.wait i wr) (fun iv _ => t.wait.length - (intOf iv).toNat)
 case atStart => exact ⟨0, by omega, rfl, waitOk_nil _, HW0.out⟩
 case round =>
  clear HW0
  obtain ⟨i, hi, rfl, hh, hs⟩ := hrel
  have HQ := Lib.hid hs
  have HH := Lib.hid hh
  clear hs hh
  by_cases hlt : i < t.wait.length
  ·obtain ⟨g, off, rfl, hr⟩ := hg0.out (by omega)
   obtain ⟨x, hx⟩ : ∃ x, t.wait[i]? = some x := ⟨_, List.getElem?_eq_getElem hlt⟩
   have HBw : Hid (∀ W, BelW wr W → Below w.heap.size w W) := fun W (hb : Below wr.heap.size wr W) => HQ.out.old.trans (hb.mono HQ.out.old.size)
   have HRg : Hid (∀ W, BelW wr W → W.rangeAt g (off + i * 4) (grCells x)) := fun W (hb : Below wr.heap.size wr W) => elem_rng (hr W (HBw.out W hb)) hx
   have HBt : Hid (∀ W, BelW wr W → W.rangeAt w.heap.size 0 (tbCells (.slice a t.held.length cap) (.slice (some ⟨g, off, none⟩) t.wait.length cap2))) := fun W (hb : Below wr.heap.size wr W) j v hv => by
    rw [Nat.zero_add, cell_of_row W _ j _ _ _ ((hb.block _ (Array.getElem?_eq_some_iff.1 HQ.out.box).1).trans HQ.out.box), List.getElem?_toArray]; exact hv
   have HSe : Hid (∀ W, BelW wr W → SeenM W (w.heap.size + 1) i ((t.wait.take i).map Gr.tx)) := fun W (hb : Below wr.heap.size wr W) => HQ.out.seen.below hb
   have HXi := Lib.hid hx
   have HGx := Lib.hid (HGe.out x (List.mem_of_getElem? hx))
   have HGr : Hid (∀ W, Calls Try.prog 40 #[.agg (grCells x).toArray] W fun e w' => e = .returned (.bool (grOkB x)) ∧ Below W.heap.size W w') := fun W => pgrant_any x W
   have HOx := Lib.hid (@grOkB_iff x)
   have HMx : Hid (∀ W, Below w.heap.size w W → Calls Try.prog 41 #[.slice a t.held.length cap, .int .i64 x.tx, .agg (lkCells x.lock).toArray] W fun e w' => e = .returned (.int .i64 (modeR t.held x.tx x.page x.slot)) ∧ Below W.heap.size W w') := fun W hb => HMo.out x.tx x.lock W hb
   have hNx := HNg.out i x hx
   have hNm := HNm.out i x hx
   have hNt := HNt.out i x hx
   have hii : (i : Int) < (t.wait.length : Int) := by omega
   have hi0 : (0 : Int) ≤ (i : Int) := by omega
   have hiw : IntKind.i64.wrap ((i : Int) + 1) = (i : Int) + 1 := IntWalk.i64_in _ (by have := HN.out; omega)
   have HIm : Hid (i < maxLen) := by show i < _; have := HN.out; unfold maxLen; omega
   have HLt := Lib.hid hlt
   have HY := Lib.hid (Hp.start wr)
   clear hr hi hx hg0 hlt HMo
   go_upto_region 5 with (first | ((with_reducible refine wpList_load_at 29 (.tmp 15) g ((off + i * 4)) (grCells x) HUG.out ?_ ?_ ?_ ?_ ?_); (exact rfl); (exact (HRg.out _ (HY.out).old)); (exact rfl); (exact info_gr); simp only [Act.put, List.setIfInBounds_toArray, List.set_cons_zero, List.set_cons_succ]) | ((with_reducible refine wpList_alloc_ob 29 (grCells grNil) ?_ ?_); (exact alloc_gr); simp only [Act.put, List.setIfInBounds_toArray, List.set_cons_zero, List.set_cons_succ]) | ((with_reducible refine wpList_store_ob 29 (.tmp 5) (wr.heap.size) (grCells x) (grCells grNil) 29 ?_ ?_ ?_ ?_ ?_ ?_ ?_); (exact rfl); (exact rfl); (exact ((HY.out).put 29 (grCells grNil)).get 0 rfl); (exact info_gr); (exact rfl); (exact (oneCell_gr _)); skip))
   have HS21 : Hid (Hp wr [.ob (wr.heap.size) 29 (grCells x)] ((wr.alloc (.cells (grCells grNil).toArray 29)).setRow (wr.heap.size) (grCells x).toArray)) := ((HY.out).put 29 (grCells grNil)).row 0 rfl (grCells x)
   clear HY
   generalize ((wr.alloc (.cells (grCells grNil).toArray 29)).setRow (wr.heap.size) (grCells x).toArray) = w21 at *
   generalize wr.heap.size = B21 at *
   generalize grOkB x = gb at *
   obtain ⟨mo, hmoe⟩ : ∃ mo, modeR t.held x.tx x.page x.slot = mo := ⟨_, rfl⟩
   have HMe := Lib.hid hmoe
   simp only [hmoe] at HMx hNm
   clear hmoe
   cases gb
   case false =>
    have HX := Lib.hid (hNx rfl)
    clear hNx HOx hNm hNt
    refine wp_region_held_drew (S := fun w' => w'.rangeAt B21 0 (grCells x) ∧ w'.rangeAt w.heap.size 0 (tbCells (.slice a t.held.length cap) (.slice (some ⟨g, off, none⟩) t.wait.length cap2)) ∧ SeenM w' (w.heap.size + 1) i ((t.wait.take i).map Gr.tx)) (by kernel_rfl) (⟨(fun j v hv => by rw [Nat.zero_add]; exact ((HS21.out).drew).at 0 rfl j hv), (HBt.out _ ((HS21.out).drew).old), HSe.out _ ((HS21.out).drew).old⟩) (fun hHeld => ?_)
    refine tk 0 qPk6_0 (some 17) (yieldsIf_load_mid (by rfl) 29 (.tmp 5) rfl B21 (0) rfl (grCells x) _ (fun _ h => h.1) HUG.out rfl (info_gr)) hHeld ?_
    try simp only [z0, z1, z2, z3]
    refine tn 1 qPk6_1 (fun K hK => ?_)
    go_simp
    go_wp2_with (go_at_call 40; refine (HGr.out _).mono ?_; rintro e w61 ⟨rfl, hb⟩)
    have HS61 := Lib.hid (((HS21.out).drew).calls hb)
    refine hK.out _ _ (⟨(fun j v hv => by rw [Nat.zero_add]; exact (HS61.out).at 0 rfl j hv), (HBt.out _ (HS61.out).old), HSe.out _ (HS61.out).old⟩) (fun hHeld => ?_)
    clear hK K hb
    try simp only [z0, z1, z2, z3]
    refine tk 2 qPk6_2 (some 19) (v := .bool true) (Or.inl ⟨by rfl, ?q102h⟩) hHeld ?q102r
    case q102h => (intro wq hSw; clear hSw; go_simp; try with_reducible rfl)
    try simp only [z0, z1, z2, z3]
    refine tk 3 qPk6_3 (some 20) (v := ?q103v) (Or.inl ⟨by rfl, ?q103h⟩) hHeld ?q103r
    case q103h => (intro wq hSw; clear hSw; go_simp; try with_reducible rfl)
    try simp only [z0, z1, z2, z3]
    refine tk 4 qPk6_4 (some 21) (v := undef) (Or.inr ⟨by rfl, rfl⟩) hHeld ?_
    try simp only [z0, z1, z2, z3]
    refine tk 5 qPk6_5 (some 22) (v := undef) (Or.inr ⟨by rfl, rfl⟩) hHeld ?_
    try simp only [z0, z1, z2, z3]
    refine tk 6 qPk6_6 (some 23) (v := undef) (Or.inr ⟨by rfl, rfl⟩) hHeld ?_
    try simp only [z0, z1, z2, z3]
    refine tk 7 qPk6_7 (some 24) (v := undef) (Or.inr ⟨by rfl, rfl⟩) hHeld ?_
    try simp only [z0, z1, z2, z3]
    refine tk 8 qPk6_8 (some 25) (v := ?q108v) (Or.inl ⟨by rfl, ?q108h⟩) hHeld ?q108r
    case q108h => (intro wq hSw; clear hSw; go_simp; try with_reducible rfl)
    try simp only [z0, z1, z2, z3]
    refine tk 9 qPk6_9 (some 26) (v := ?q109v) (Or.inl ⟨by rfl, ?q109h⟩) hHeld ?q109r
    case q109h => (intro wq hSw; clear hSw; go_simp; try with_reducible rfl)
    try simp only [z0, z1, z2, z3]
    refine tk 10 qPk6_10 (some 27) (v := undef) (Or.inr ⟨by rfl, rfl⟩) hHeld ?_
    try simp only [z0, z1, z2, z3]
    refine tk 11 qPk6_11 (some 28) (v := undef) (Or.inr ⟨by rfl, rfl⟩) hHeld ?_
    try simp only [z0, z1, z2, z3]
    refine tk 12 qPk6_12 (some 29) (v := undef) (Or.inr ⟨by rfl, rfl⟩) hHeld ?_
    try simp only [z0, z1, z2, z3]
    refine tk 13 qPk6_13 (some 30) (v := undef) (Or.inr ⟨by rfl, rfl⟩) hHeld ?_
    try simp only [z0, z1, z2, z3]
    refine tk 14 qPk6_14 (some 31) (v := undef) (Or.inr ⟨by rfl, rfl⟩) hHeld ?_
    try simp only [z0, z1, z2, z3]
    refine tk 15 qPk6_15 (some 32) (v := undef) (Or.inr ⟨by rfl, rfl⟩) hHeld ?_
    try simp only [z0, z1, z2, z3]
    refine tk 17 qPk6_16 (some 34) (v := undef) (Or.inr ⟨by rfl, rfl⟩) hHeld ?_
    try simp only [z0, z1, z2, z3]
    refine tk 18 qPk6_17 (some 35) (v := undef) (Or.inr ⟨by rfl, rfl⟩) hHeld ?_
    try simp only [z0, z1, z2, z3]
    refine tn 16 qPk6_18 (fun K hK => ?_)
    rw [if_neg (by exact Bool.false_ne_true)]
    have HS62 := HS61
    refine hK.out _ _ (⟨(fun j v hv => by rw [Nat.zero_add]; exact (HS62.out).at 0 rfl j hv), (HBt.out _ (HS62.out).old), HSe.out _ (HS62.out).old⟩) (fun hHeld => ?_)
    clear hK K
    try simp only [z0, z1, z2, z3]
    refine tk 19 qPk6_19 (some 36) (v := undef) (Or.inr ⟨by rfl, rfl⟩) hHeld ?_
    try simp only [z0, z1, z2, z3]
    refine tk 20 qPk6_20 (some 37) (v := ?q119v) (Or.inl ⟨by rfl, ?q119h⟩) hHeld ?q119r
    case q119h => (intro wq hSw; clear hSw; go_simp; try with_reducible rfl)
    try simp only [z0, z1, z2, z3]
    refine wpAnyH_done (by kernel_rfl) ?_ _
    clear hHeld
    go_wp2_with fail
    go_ret
    exact ⟨by rw [HX.out]; rfl, HBw.out _ (HS62.out).old⟩
   case true =>
    have HOk1 := Lib.hid (HOx.out.1 rfl)
    clear hNx HOx
    by_cases hm : x.tx ∈ (t.wait.take i).map Gr.tx
    ·have HX := Lib.hid (hNt hm)
     have HMem := Lib.hid (decide_eq_true hm)
     clear hNm hNt hm
     refine wp_region_held_drew (S := fun w' => w'.rangeAt B21 0 (grCells x) ∧ w'.rangeAt w.heap.size 0 (tbCells (.slice a t.held.length cap) (.slice (some ⟨g, off, none⟩) t.wait.length cap2)) ∧ SeenM w' (w.heap.size + 1) i ((t.wait.take i).map Gr.tx)) (by kernel_rfl) (⟨(fun j v hv => by rw [Nat.zero_add]; exact ((HS21.out).drew).at 0 rfl j hv), (HBt.out _ ((HS21.out).drew).old), HSe.out _ ((HS21.out).drew).old⟩) (fun hHeld => ?_)
     refine tk 0 qPk6_0 (some 17) (yieldsIf_load_mid (by rfl) 29 (.tmp 5) rfl B21 (0) rfl (grCells x) _ (fun _ h => h.1) HUG.out rfl (info_gr)) hHeld ?_
     try simp only [z0, z1, z2, z3]
     refine tn 1 qPk6_1 (fun K hK => ?_)
     go_simp
     go_wp2_with (go_at_call 40; refine (HGr.out _).mono ?_; rintro e w61 ⟨rfl, hb⟩)
     have HS61 := Lib.hid (((HS21.out).drew).calls hb)
     refine hK.out _ _ (⟨(fun j v hv => by rw [Nat.zero_add]; exact (HS61.out).at 0 rfl j hv), (HBt.out _ (HS61.out).old), HSe.out _ (HS61.out).old⟩) (fun hHeld => ?_)
     clear hK K hb
     try simp only [z0, z1, z2, z3]
     refine tk 2 qPk6_2 (some 19) (v := .bool false) (Or.inl ⟨by rfl, ?q202h⟩) hHeld ?q202r
     case q202h => (intro wq hSw; clear hSw; go_simp; try with_reducible rfl)
     try simp only [z0, z1, z2, z3]
     refine tk 3 qPk6_3 (some 20) (v := ?q203v) (Or.inl ⟨by rfl, ?q203h⟩) hHeld ?q203r
     case q203h => (intro wq hSw; clear hSw; go_simp; try with_reducible rfl)
     try simp only [z0, z1, z2, z3]
     refine tk 4 qPk6_4 (some 21) (v := ?q204v) (Or.inl ⟨by rfl, ?q204h⟩) hHeld ?q204r
     case q204h => (intro wq hSw; clear hSw; go_simp; try with_reducible rfl)
     try simp only [z0, z1, z2, z3]
     refine tk 5 qPk6_5 (some 22) (v := ?q205v) (Or.inl ⟨by rfl, ?q205h⟩) hHeld ?q205r
     case q205h => (intro wq hSw; clear hSw; go_simp; try with_reducible rfl)
     try simp only [z0, z1, z2, z3]
     refine tk 6 qPk6_6 (some 23) (v := .int .i64 x.tx) (Or.inl ⟨by rfl, ?q206h⟩) hHeld ?q206r
     case q206h => (intro wq hSw; have lq := (hSw.1) 0 (.int .i64 x.tx) rfl; simp only [Nat.zero_add] at lq; clear hSw; go_simp; try with_reducible rfl)
     try simp only [z0, z1, z2, z3]
     refine tk 7 qPk6_7 (some 24) (v := .bool true) (Or.inl ⟨by rfl, ?q207h⟩) hHeld ?q207r
     case q207h => (intro wq hSw; have lq := seen_look hSw.2.2 HGx.out.tx HMem.out; clear hSw; go_simp; try with_reducible rfl)
     try simp only [z0, z1, z2, z3]
     refine tk 8 qPk6_8 (some 25) (v := ?q208v) (Or.inl ⟨by rfl, ?q208h⟩) hHeld ?q208r
     case q208h => (intro wq hSw; clear hSw; go_simp; try with_reducible rfl)
     try simp only [z0, z1, z2, z3]
     refine tk 9 qPk6_9 (some 26) (v := ?q209v) (Or.inl ⟨by rfl, ?q209h⟩) hHeld ?q209r
     case q209h => (intro wq hSw; clear hSw; go_simp; try with_reducible rfl)
     try simp only [z0, z1, z2, z3]
     refine tk 10 qPk6_10 (some 27) (v := undef) (Or.inr ⟨by rfl, rfl⟩) hHeld ?_
     try simp only [z0, z1, z2, z3]
     refine tk 11 qPk6_11 (some 28) (v := undef) (Or.inr ⟨by rfl, rfl⟩) hHeld ?_
     try simp only [z0, z1, z2, z3]
     refine tk 12 qPk6_12 (some 29) (v := undef) (Or.inr ⟨by rfl, rfl⟩) hHeld ?_
     try simp only [z0, z1, z2, z3]
     refine tk 13 qPk6_13 (some 30) (v := undef) (Or.inr ⟨by rfl, rfl⟩) hHeld ?_
     try simp only [z0, z1, z2, z3]
     refine tk 14 qPk6_14 (some 31) (v := undef) (Or.inr ⟨by rfl, rfl⟩) hHeld ?_
     try simp only [z0, z1, z2, z3]
     refine tk 15 qPk6_15 (some 32) (v := undef) (Or.inr ⟨by rfl, rfl⟩) hHeld ?_
     try simp only [z0, z1, z2, z3]
     refine tk 17 qPk6_16 (some 34) (v := undef) (Or.inr ⟨by rfl, rfl⟩) hHeld ?_
     try simp only [z0, z1, z2, z3]
     refine tk 18 qPk6_17 (some 35) (v := undef) (Or.inr ⟨by rfl, rfl⟩) hHeld ?_
     try simp only [z0, z1, z2, z3]
     refine tn 16 qPk6_18 (fun K hK => ?_)
     rw [if_neg (by exact Bool.false_ne_true)]
     have HS62 := HS61
     refine hK.out _ _ (⟨(fun j v hv => by rw [Nat.zero_add]; exact (HS62.out).at 0 rfl j hv), (HBt.out _ (HS62.out).old), HSe.out _ (HS62.out).old⟩) (fun hHeld => ?_)
     clear hK K
     try simp only [z0, z1, z2, z3]
     refine tk 19 qPk6_19 (some 36) (v := undef) (Or.inr ⟨by rfl, rfl⟩) hHeld ?_
     try simp only [z0, z1, z2, z3]
     refine tk 20 qPk6_20 (some 37) (v := ?q219v) (Or.inl ⟨by rfl, ?q219h⟩) hHeld ?q219r
     case q219h => (intro wq hSw; clear hSw; go_simp; try with_reducible rfl)
     try simp only [z0, z1, z2, z3]
     refine wpAnyH_done (by kernel_rfl) ?_ _
     clear hHeld
     go_wp2_with fail
     go_ret
     exact ⟨by rw [HX.out]; rfl, HBw.out _ (HS62.out).old⟩
    ·have HMem := Lib.hid (decide_eq_false hm)
     have HM1 := Lib.hid hm
     clear hNt hm
     by_cases hmo : x.mode ≤ mo
     ·have HX := Lib.hid (hNm hmo)
      have dmo : decide (x.mode ≤ mo) = true := decide_eq_true hmo
      clear hNm hmo
      refine wp_region_held_drew (S := fun w' => w'.rangeAt B21 0 (grCells x) ∧ w'.rangeAt w.heap.size 0 (tbCells (.slice a t.held.length cap) (.slice (some ⟨g, off, none⟩) t.wait.length cap2)) ∧ SeenM w' (w.heap.size + 1) i ((t.wait.take i).map Gr.tx)) (by kernel_rfl) (⟨(fun j v hv => by rw [Nat.zero_add]; exact ((HS21.out).drew).at 0 rfl j hv), (HBt.out _ ((HS21.out).drew).old), HSe.out _ ((HS21.out).drew).old⟩) (fun hHeld => ?_)
      refine tk 0 qPk6_0 (some 17) (yieldsIf_load_mid (by rfl) 29 (.tmp 5) rfl B21 (0) rfl (grCells x) _ (fun _ h => h.1) HUG.out rfl (info_gr)) hHeld ?_
      try simp only [z0, z1, z2, z3]
      refine tn 1 qPk6_1 (fun K hK => ?_)
      go_simp
      go_wp2_with (go_at_call 40; refine (HGr.out _).mono ?_; rintro e w61 ⟨rfl, hb⟩)
      have HS61 := Lib.hid (((HS21.out).drew).calls hb)
      refine hK.out _ _ (⟨(fun j v hv => by rw [Nat.zero_add]; exact (HS61.out).at 0 rfl j hv), (HBt.out _ (HS61.out).old), HSe.out _ (HS61.out).old⟩) (fun hHeld => ?_)
      clear hK K hb
      try simp only [z0, z1, z2, z3]
      refine tk 2 qPk6_2 (some 19) (v := .bool false) (Or.inl ⟨by rfl, ?q302h⟩) hHeld ?q302r
      case q302h => (intro wq hSw; clear hSw; go_simp; try with_reducible rfl)
      try simp only [z0, z1, z2, z3]
      refine tk 3 qPk6_3 (some 20) (v := ?q303v) (Or.inl ⟨by rfl, ?q303h⟩) hHeld ?q303r
      case q303h => (intro wq hSw; clear hSw; go_simp; try with_reducible rfl)
      try simp only [z0, z1, z2, z3]
      refine tk 4 qPk6_4 (some 21) (v := ?q304v) (Or.inl ⟨by rfl, ?q304h⟩) hHeld ?q304r
      case q304h => (intro wq hSw; clear hSw; go_simp; try with_reducible rfl)
      try simp only [z0, z1, z2, z3]
      refine tk 5 qPk6_5 (some 22) (v := ?q305v) (Or.inl ⟨by rfl, ?q305h⟩) hHeld ?q305r
      case q305h => (intro wq hSw; clear hSw; go_simp; try with_reducible rfl)
      try simp only [z0, z1, z2, z3]
      refine tk 6 qPk6_6 (some 23) (v := .int .i64 x.tx) (Or.inl ⟨by rfl, ?q306h⟩) hHeld ?q306r
      case q306h => (intro wq hSw; have lq := (hSw.1) 0 (.int .i64 x.tx) rfl; simp only [Nat.zero_add] at lq; clear hSw; go_simp; try with_reducible rfl)
      try simp only [z0, z1, z2, z3]
      refine tk 7 qPk6_7 (some 24) (v := .bool false) (Or.inl ⟨by rfl, ?q307h⟩) hHeld ?q307r
      case q307h => (intro wq hSw; have lq := seen_look hSw.2.2 HGx.out.tx HMem.out; clear hSw; go_simp; try with_reducible rfl)
      try simp only [z0, z1, z2, z3]
      refine tk 8 qPk6_8 (some 25) (v := ?q308v) (Or.inl ⟨by rfl, ?q308h⟩) hHeld ?q308r
      case q308h => (intro wq hSw; clear hSw; go_simp; try with_reducible rfl)
      try simp only [z0, z1, z2, z3]
      refine tk 9 qPk6_9 (some 26) (v := ?q309v) (Or.inl ⟨by rfl, ?q309h⟩) hHeld ?q309r
      case q309h => (intro wq hSw; clear hSw; go_simp; try with_reducible rfl)
      try simp only [z0, z1, z2, z3]
      refine tk 10 qPk6_10 (some 27) (v := ?q310v) (Or.inl ⟨by rfl, ?q310h⟩) hHeld ?q310r
      case q310h => (intro wq hSw; clear hSw; go_simp; try with_reducible rfl)
      try simp only [z0, z1, z2, z3]
      refine tk 11 qPk6_11 (some 28) (v := .slice a t.held.length cap) (Or.inl ⟨by rfl, ?q311h⟩) hHeld ?q311r
      case q311h => (intro wq hSw; have lq := (hSw.2.1) 0 (.slice a t.held.length cap) rfl; simp only [Nat.zero_add] at lq; clear hSw; go_simp; try with_reducible rfl)
      try simp only [z0, z1, z2, z3]
      refine tk 12 qPk6_12 (some 29) (v := ?q312v) (Or.inl ⟨by rfl, ?q312h⟩) hHeld ?q312r
      case q312h => (intro wq hSw; clear hSw; go_simp; try with_reducible rfl)
      try simp only [z0, z1, z2, z3]
      refine tk 13 qPk6_13 (some 30) (v := .int .i64 x.tx) (Or.inl ⟨by rfl, ?q313h⟩) hHeld ?q313r
      case q313h => (intro wq hSw; have lq := (hSw.1) 0 (.int .i64 x.tx) rfl; simp only [Nat.zero_add] at lq; clear hSw; go_simp; try with_reducible rfl)
      try simp only [z0, z1, z2, z3]
      refine tk 14 qPk6_14 (some 31) (v := ?q314v) (Or.inl ⟨by rfl, ?q314h⟩) hHeld ?q314r
      case q314h => (intro wq hSw; clear hSw; go_simp; try with_reducible rfl)
      try simp only [z0, z1, z2, z3]
      refine tk 15 qPk6_15 (some 32) (yieldsIf_load_mid (by rfl) 27 (.tmp 31) rfl B21 (1) rfl (lkCells x.lock) _ (fun _ h => range_part (h.1) (mid_lk x)) HUK.out rfl (info_lk)) hHeld ?_
      try simp only [z0, z1, z2, z3]
      refine tk 17 qPk6_16 (some 34) (v := ?q316v) (Or.inl ⟨by rfl, ?q316h⟩) hHeld ?q316r
      case q316h => (intro wq hSw; clear hSw; go_simp; try with_reducible rfl)
      try simp only [z0, z1, z2, z3]
      refine tk 18 qPk6_17 (some 35) (v := .int .i64 x.mode) (Or.inl ⟨by rfl, ?q317h⟩) hHeld ?q317r
      case q317h => (intro wq hSw; have lq := (hSw.1) 3 (.int .i64 x.mode) rfl; simp only [Nat.zero_add] at lq; clear hSw; go_simp; try with_reducible rfl)
      try simp only [z0, z1, z2, z3]
      refine tn 16 qPk6_18 (fun K hK => ?_)
      go_simp
      go_wp2_with (go_at_call 41; refine (HMx.out _ (HBw.out _ (HS61.out).old)).mono ?_; rintro e w62 ⟨rfl, hb⟩)
      have HS62 := Lib.hid ((HS61.out).calls hb)
      refine hK.out _ _ (⟨(fun j v hv => by rw [Nat.zero_add]; exact (HS62.out).at 0 rfl j hv), (HBt.out _ (HS62.out).old), HSe.out _ (HS62.out).old⟩) (fun hHeld => ?_)
      clear hK K hb
      try simp only [z0, z1, z2, z3]
      refine tk 19 qPk6_19 (some 36) (v := .bool true) (Or.inl ⟨by rfl, ?q318h⟩) hHeld ?q318r
      case q318h => (intro wq hSw; clear hSw; go_simp; try with_reducible rfl)
      try simp only [z0, z1, z2, z3]
      refine tk 20 qPk6_20 (some 37) (v := ?q319v) (Or.inl ⟨by rfl, ?q319h⟩) hHeld ?q319r
      case q319h => (intro wq hSw; clear hSw; go_simp; try with_reducible rfl)
      try simp only [z0, z1, z2, z3]
      refine wpAnyH_done (by kernel_rfl) ?_ _
      clear hHeld
      go_wp2_with fail
      go_ret
      exact ⟨by rw [HX.out]; rfl, HBw.out _ (HS62.out).old⟩
     ·have dmo : decide (x.mode ≤ mo) = false := decide_eq_false hmo
      have HMo2 : Hid (mo < x.mode) := by show _ < _; omega
      clear hNm hmo
      refine wp_region_held_drew (S := fun w' => w'.rangeAt B21 0 (grCells x) ∧ w'.rangeAt w.heap.size 0 (tbCells (.slice a t.held.length cap) (.slice (some ⟨g, off, none⟩) t.wait.length cap2)) ∧ SeenM w' (w.heap.size + 1) i ((t.wait.take i).map Gr.tx)) (by kernel_rfl) (⟨(fun j v hv => by rw [Nat.zero_add]; exact ((HS21.out).drew).at 0 rfl j hv), (HBt.out _ ((HS21.out).drew).old), HSe.out _ ((HS21.out).drew).old⟩) (fun hHeld => ?_)
      refine tk 0 qPk6_0 (some 17) (yieldsIf_load_mid (by rfl) 29 (.tmp 5) rfl B21 (0) rfl (grCells x) _ (fun _ h => h.1) HUG.out rfl (info_gr)) hHeld ?_
      try simp only [z0, z1, z2, z3]
      refine tn 1 qPk6_1 (fun K hK => ?_)
      go_simp
      go_wp2_with (go_at_call 40; refine (HGr.out _).mono ?_; rintro e w61 ⟨rfl, hb⟩)
      have HS61 := Lib.hid (((HS21.out).drew).calls hb)
      refine hK.out _ _ (⟨(fun j v hv => by rw [Nat.zero_add]; exact (HS61.out).at 0 rfl j hv), (HBt.out _ (HS61.out).old), HSe.out _ (HS61.out).old⟩) (fun hHeld => ?_)
      clear hK K hb
      try simp only [z0, z1, z2, z3]
      refine tk 2 qPk6_2 (some 19) (v := .bool false) (Or.inl ⟨by rfl, ?q402h⟩) hHeld ?q402r
      case q402h => (intro wq hSw; clear hSw; go_simp; try with_reducible rfl)
      try simp only [z0, z1, z2, z3]
      refine tk 3 qPk6_3 (some 20) (v := ?q403v) (Or.inl ⟨by rfl, ?q403h⟩) hHeld ?q403r
      case q403h => (intro wq hSw; clear hSw; go_simp; try with_reducible rfl)
      try simp only [z0, z1, z2, z3]
      refine tk 4 qPk6_4 (some 21) (v := ?q404v) (Or.inl ⟨by rfl, ?q404h⟩) hHeld ?q404r
      case q404h => (intro wq hSw; clear hSw; go_simp; try with_reducible rfl)
      try simp only [z0, z1, z2, z3]
      refine tk 5 qPk6_5 (some 22) (v := ?q405v) (Or.inl ⟨by rfl, ?q405h⟩) hHeld ?q405r
      case q405h => (intro wq hSw; clear hSw; go_simp; try with_reducible rfl)
      try simp only [z0, z1, z2, z3]
      refine tk 6 qPk6_6 (some 23) (v := .int .i64 x.tx) (Or.inl ⟨by rfl, ?q406h⟩) hHeld ?q406r
      case q406h => (intro wq hSw; have lq := (hSw.1) 0 (.int .i64 x.tx) rfl; simp only [Nat.zero_add] at lq; clear hSw; go_simp; try with_reducible rfl)
      try simp only [z0, z1, z2, z3]
      refine tk 7 qPk6_7 (some 24) (v := .bool false) (Or.inl ⟨by rfl, ?q407h⟩) hHeld ?q407r
      case q407h => (intro wq hSw; have lq := seen_look hSw.2.2 HGx.out.tx HMem.out; clear hSw; go_simp; try with_reducible rfl)
      try simp only [z0, z1, z2, z3]
      refine tk 8 qPk6_8 (some 25) (v := ?q408v) (Or.inl ⟨by rfl, ?q408h⟩) hHeld ?q408r
      case q408h => (intro wq hSw; clear hSw; go_simp; try with_reducible rfl)
      try simp only [z0, z1, z2, z3]
      refine tk 9 qPk6_9 (some 26) (v := ?q409v) (Or.inl ⟨by rfl, ?q409h⟩) hHeld ?q409r
      case q409h => (intro wq hSw; clear hSw; go_simp; try with_reducible rfl)
      try simp only [z0, z1, z2, z3]
      refine tk 10 qPk6_10 (some 27) (v := ?q410v) (Or.inl ⟨by rfl, ?q410h⟩) hHeld ?q410r
      case q410h => (intro wq hSw; clear hSw; go_simp; try with_reducible rfl)
      try simp only [z0, z1, z2, z3]
      refine tk 11 qPk6_11 (some 28) (v := .slice a t.held.length cap) (Or.inl ⟨by rfl, ?q411h⟩) hHeld ?q411r
      case q411h => (intro wq hSw; have lq := (hSw.2.1) 0 (.slice a t.held.length cap) rfl; simp only [Nat.zero_add] at lq; clear hSw; go_simp; try with_reducible rfl)
      try simp only [z0, z1, z2, z3]
      refine tk 12 qPk6_12 (some 29) (v := ?q412v) (Or.inl ⟨by rfl, ?q412h⟩) hHeld ?q412r
      case q412h => (intro wq hSw; clear hSw; go_simp; try with_reducible rfl)
      try simp only [z0, z1, z2, z3]
      refine tk 13 qPk6_13 (some 30) (v := .int .i64 x.tx) (Or.inl ⟨by rfl, ?q413h⟩) hHeld ?q413r
      case q413h => (intro wq hSw; have lq := (hSw.1) 0 (.int .i64 x.tx) rfl; simp only [Nat.zero_add] at lq; clear hSw; go_simp; try with_reducible rfl)
      try simp only [z0, z1, z2, z3]
      refine tk 14 qPk6_14 (some 31) (v := ?q414v) (Or.inl ⟨by rfl, ?q414h⟩) hHeld ?q414r
      case q414h => (intro wq hSw; clear hSw; go_simp; try with_reducible rfl)
      try simp only [z0, z1, z2, z3]
      refine tk 15 qPk6_15 (some 32) (yieldsIf_load_mid (by rfl) 27 (.tmp 31) rfl B21 (1) rfl (lkCells x.lock) _ (fun _ h => range_part (h.1) (mid_lk x)) HUK.out rfl (info_lk)) hHeld ?_
      try simp only [z0, z1, z2, z3]
      refine tk 17 qPk6_16 (some 34) (v := ?q416v) (Or.inl ⟨by rfl, ?q416h⟩) hHeld ?q416r
      case q416h => (intro wq hSw; clear hSw; go_simp; try with_reducible rfl)
      try simp only [z0, z1, z2, z3]
      refine tk 18 qPk6_17 (some 35) (v := .int .i64 x.mode) (Or.inl ⟨by rfl, ?q417h⟩) hHeld ?q417r
      case q417h => (intro wq hSw; have lq := (hSw.1) 3 (.int .i64 x.mode) rfl; simp only [Nat.zero_add] at lq; clear hSw; go_simp; try with_reducible rfl)
      try simp only [z0, z1, z2, z3]
      refine tn 16 qPk6_18 (fun K hK => ?_)
      go_simp
      go_wp2_with (go_at_call 41; refine (HMx.out _ (HBw.out _ (HS61.out).old)).mono ?_; rintro e w62 ⟨rfl, hb⟩)
      have HS62 := Lib.hid ((HS61.out).calls hb)
      refine hK.out _ _ (⟨(fun j v hv => by rw [Nat.zero_add]; exact (HS62.out).at 0 rfl j hv), (HBt.out _ (HS62.out).old), HSe.out _ (HS62.out).old⟩) (fun hHeld => ?_)
      clear hK K hb
      try simp only [z0, z1, z2, z3]
      refine tk 19 qPk6_19 (some 36) (v := .bool false) (Or.inl ⟨by rfl, ?q418h⟩) hHeld ?q418r
      case q418h => (intro wq hSw; clear hSw; go_simp; try with_reducible rfl)
      try simp only [z0, z1, z2, z3]
      refine tk 20 qPk6_20 (some 37) (v := ?q419v) (Or.inl ⟨by rfl, ?q419h⟩) hHeld ?q419r
      case q419h => (intro wq hSw; clear hSw; go_simp; try with_reducible rfl)
      try simp only [z0, z1, z2, z3]
      refine wpAnyH_done (by kernel_rfl) ?_ _
      clear hHeld
      have xt : w62.cell? ⟨B21, 0, none⟩ = some (.int .i64 x.tx) := HS62.out.at 0 rfl 0 rfl
      have HSn := Lib.hid (HSe.out _ HS62.out.old)
      go_wp2_with (first | ((with_reducible refine wpList_store_seen (.tmp 38) (.tmp 40) HSn.out HIm.out HGx.out.tx ?_ ?_ ?_); (exact rfl); (exact rfl)))
      intro w90 hsn hgn
      have HF := Lib.hid (HQ.out.next HXi.out HS62.out.old hsn hgn)
      clear hsn hgn xt
      go_wp2_with fail
      go_roundw
      case rel => exact ⟨i + 1, HLt.out, by go_num, by rw [lk_take_snoc HXi.out]; exact wait_snoc HH.out HOk1.out (by rw [HMe.out]; exact HMo2.out) (fun y hy e => HM1.out (List.mem_map.2 ⟨y, hy, e⟩)), HF.out⟩
      case measure => simp [intOf]; try (have := HLt.out; omega)
  ·obtain rfl : i = t.wait.length := by omega
   have HX := Lib.hid (HYes.out (by have := HH.out; rwa [List.take_length] at this))
   clear hlt hi HH
   go_wp2_with fail
   go_ret
   exact ⟨by rw [HX.out]; rfl, HQ.out.old⟩
end Go.Proofs.Ytcnaalbpbalgdaa
/- the program's Valid, Mode, Waiting (locks) -/
namespace Go.Proofs.Ytcnaalbpbalgdaa
open Go.RowKit
set_option maxRecDepth 20000
set_option linter.unusedSimpArgs false
set_option linter.unusedVariables false

theorem ok_parts (t : Tb) : tbOkB t = (decide (t.held.length + t.wait.length ≤ 1024) && (heldB t.held && waitB t.held t.wait)) := by
  rw [Bool.eq_iff_iff, tbOkB_iff, Bool.and_eq_true, Bool.and_eq_true, decide_eq_true_eq, heldB_iff, waitB_iff]
  exact ⟨fun h => ⟨h.few, h.tin.held, h.tin.wait⟩, fun h => ⟨h.1, ⟨h.2.1, h.2.2⟩⟩⟩
set_option maxHeartbeats 4000000 in
theorem plkvalid_any {h v : Value} {t : Tb} {R : List Rng} (w : World) (ht : TbRd h v t R) (hR : RdIn w R) (hg : GoodTb t) :
    Calls Try.prog 12 #[.agg (tbCells h v).toArray] w fun e w' => e = .returned (.bool (tbOkB t)) ∧ Below w.heap.size w w' := by
  obtain ⟨a, cap, rfl, hnc, hcm⟩ := ht.1.shape
  obtain ⟨a2, cap2, rfl, hnc2, hcm2⟩ := ht.2.shape
  have HSz : Hid (∀ W, Calls Try.prog 32 #[.agg (tbCells (.slice a t.held.length cap) (.slice a2 t.wait.length cap2)).toArray] W fun e w' => e = .returned (.int .i64 ((t.held.length : Int) + (t.wait.length : Int))) ∧ Below W.heap.size W w') := fun W => size_any W ht hg
  have HHd : Hid (∀ W, Below w.heap.size w W → Calls Try.prog 33 #[.slice a t.held.length cap] W fun e w' => e = .returned (.bool (heldB t.held)) ∧ Below W.heap.size W w') := fun W hb => validHeld_any t.held _ R W ht.1 (hR.below hb) hg.held hg.few.1
  have HWt : Hid (heldB t.held = true → ∀ W, Below w.heap.size w W → Calls Try.prog 34 #[.agg (tbCells (.slice a t.held.length cap) (.slice a2 t.wait.length cap2)).toArray] W fun e w' => e = .returned (.bool (waitB t.held t.wait)) ∧ Below W.heap.size W w') := fun hh W hb => validWaiting_any W ht (hR.below hb) hg (heldB_iff.1 hh)
  have HV := Lib.hid (ok_parts t)
  clear ht hR hg
  obtain ⟨fs, hu⟩ := under_tb
  have HUT := Lib.hid hu
  clear hu
  have h1 := (Hp.start w).put 25 (tbCells (.slice a t.held.length cap) (.slice a2 t.wait.length cap2))
  have HS0 : Hid (Hp w [.ob w.heap.size 25 (tbCells (.slice a t.held.length cap) (.slice a2 t.wait.length cap2))] (w.alloc (.cells (tbCells (.slice a t.held.length cap) (.slice a2 t.wait.length cap2)).toArray 25))) := h1
  clear h1
  obtain ⟨ok, hok⟩ : ∃ ok, tbOkB t = ok := ⟨_, rfl⟩
  rw [hok] at HV ⊢
  clear hok
  generalize heldB t.held = hd at *
  generalize waitB t.held t.wait = wt at *
  go_enter Try.func12, Try.ntmps12
  go_upto_region 1 with (fail)
  generalize (w.alloc (.cells (tbCells (.slice a t.held.length cap) (.slice a2 t.wait.length cap2)).toArray 25)) = w1 at *
  go_wp2_with (first | ((with_reducible refine wpList_load_ob 25 (.tmp 1) w.heap.size (tbCells (.slice a t.held.length cap) (.slice a2 t.wait.length cap2)) 25 HUT.out ?_ ?_ ?_ ?_ ?_); (exact rfl); (exact HS0.out.get 0 rfl); (exact rfl); (exact info_tb); simp only [Act.put, List.setIfInBounds_toArray, List.set_cons_zero, List.set_cons_succ]) | ((with_reducible refine wpList_load_ob_w 25 (.tmp 1) w.heap.size (tbCells (.slice a t.held.length cap) (.slice a2 t.wait.length cap2)) 25 HUT.out ?_ ?_ ?_ ?_ ?_ ?_); (exact rfl); (exact rfl); (exact HS0.out.get 0 rfl); (exact rfl); (exact info_tb); simp only [Act.put, List.setIfInBounds_toArray, List.set_cons_zero, List.set_cons_succ]))
  refine (HSz.out _).mono ?_
  rintro e w2 ⟨rfl, hb⟩
  have HS1 := Lib.hid (HS0.out.calls hb)
  clear HS0 hb HSz
  by_cases hle : t.held.length + t.wait.length ≤ 1024
  · have hle' : ((t.held.length : Int) + (t.wait.length : Int)) ≤ 1024 := by omega
    have HV2 : Hid (ok = (hd && wt)) := Lib.hid (by rw [HV.out, decide_eq_true hle]; rfl)
    clear hle HV
    have b0 : w2.cell? ⟨w.heap.size, 0, none⟩ = some (.slice a t.held.length cap) := HS1.out.at 0 rfl 0 rfl
    have b1 : w2.cell? ⟨w.heap.size, 1, none⟩ = some (.slice a2 t.wait.length cap2) := HS1.out.at 0 rfl 1 rfl
    go_wp2_with fail
    refine (HHd.out _ HS1.out.old).mono ?_
    rintro e w3 ⟨rfl, hb⟩
    have HS2 := Lib.hid (HS1.out.calls hb)
    clear b0 b1 HS1 hb HHd
    cases hd
    · have HX : Hid (ok = false) := Lib.hid (by rw [HV2.out]; rfl)
      go_wp2_with fail
      go_ret
      exact ⟨by rw [HX.out]; rfl, HS2.out.old⟩
    · have HX : Hid (ok = wt) := Lib.hid (by rw [HV2.out]; rfl)
      have HWu := Lib.hid (HWt.out rfl)
      clear HWt HV2
      go_wp2_with (first | ((with_reducible refine wpList_load_ob 25 (.tmp 1) w.heap.size (tbCells (.slice a t.held.length cap) (.slice a2 t.wait.length cap2)) 25 HUT.out ?_ ?_ ?_ ?_ ?_); (exact rfl); (exact HS2.out.get 0 rfl); (exact rfl); (exact info_tb); simp only [Act.put, List.setIfInBounds_toArray, List.set_cons_zero, List.set_cons_succ]) | ((with_reducible refine wpList_load_ob_w 25 (.tmp 1) w.heap.size (tbCells (.slice a t.held.length cap) (.slice a2 t.wait.length cap2)) 25 HUT.out ?_ ?_ ?_ ?_ ?_ ?_); (exact rfl); (exact rfl); (exact HS2.out.get 0 rfl); (exact rfl); (exact info_tb); simp only [Act.put, List.setIfInBounds_toArray, List.set_cons_zero, List.set_cons_succ]))
      refine (HWu.out _ HS2.out.old).mono ?_
      rintro e w4 ⟨rfl, hb⟩
      have HS3 := Lib.hid (HS2.out.calls hb)
      clear HS2 hb HWu
      go_wp2_with fail
      go_ret
      exact ⟨by rw [HX.out]; rfl, HS3.out.old⟩
  · have hle' : ¬ ((t.held.length : Int) + (t.wait.length : Int)) ≤ 1024 := by omega
    have HX : Hid (ok = false) := Lib.hid (by rw [HV.out, decide_eq_false hle]; rfl)
    clear hle HV
    go_wp2_with fail
    go_ret
    exact ⟨by rw [HX.out]; rfl, HS1.out.old⟩
set_option maxHeartbeats 4000000 in
theorem pMode_any {h v : Value} {t : Tb} {R : List Rng} (tx : Int) (k : Lok) (w : World) (ht : TbRd h v t R) (hR : RdIn w R) (hg : GoodTb t) (hk : GoodLk k) :
    Calls Try.prog 20 #[.agg (tbCells h v).toArray, .int .i64 tx, .agg (lkCells k).toArray] w fun e w' => e = .returned (.int .i64 (modeT t tx k.page k.slot)) ∧ Below w.heap.size w w' := by
  obtain ⟨a, cap, rfl, hnc, hcm⟩ := ht.1.shape
  obtain ⟨a2, cap2, rfl, hnc2, hcm2⟩ := ht.2.shape
  have HVa : Hid (∀ W, Below w.heap.size w W → Calls Try.prog 12 #[.agg (tbCells (.slice a t.held.length cap) (.slice a2 t.wait.length cap2)).toArray] W fun e w' => e = .returned (.bool (tbOkB t)) ∧ Below W.heap.size W w') := fun W hb => plkvalid_any W ht (hR.below hb) hg
  have HMo : Hid (tbOkB t = true → ∀ W, Below w.heap.size w W → Calls Try.prog 41 #[.slice a t.held.length cap, .int .i64 tx, .agg #[.int .i64 k.page, .int .i64 k.slot]] W fun e w' => e = .returned (.int .i64 (modeR t.held tx k.page k.slot)) ∧ Below W.heap.size W w') := fun hh W hb => pmode_any tx k t.held _ R W (tbOkB_iff.1 hh).tin.held.up ht.1 (hR.below hb) (by have := hg.few; omega)
  have HV : Hid (modeT t tx k.page k.slot = if tbOkB t = true then modeR t.held tx k.page k.slot else 0) := rfl
  clear ht hR hg hk
  obtain ⟨fs, hu⟩ := under_tb
  have HUT := Lib.hid hu
  clear hu
  have h1 := ((Hp.start w).put 25 (tbCells (.slice a t.held.length cap) (.slice a2 t.wait.length cap2))).put 27 (lkCells k)
  simp only [World.size_alloc, List.nil_append, List.cons_append] at h1
  have HS0 : Hid (Hp w [.ob w.heap.size 25 (tbCells (.slice a t.held.length cap) (.slice a2 t.wait.length cap2)), .ob (w.heap.size + 1) 27 (lkCells k)] ((w.alloc (.cells (tbCells (.slice a t.held.length cap) (.slice a2 t.wait.length cap2)).toArray 25)).alloc (.cells (lkCells k).toArray 27))) := h1
  clear h1
  generalize tbOkB t = ok at *
  go_enter Try.func20, Try.ntmps20
  go_upto_region 1 with (fail)
  generalize ((w.alloc (.cells (tbCells (.slice a t.held.length cap) (.slice a2 t.wait.length cap2)).toArray 25)).alloc (.cells (lkCells k).toArray 27)) = w1 at *
  generalize w.heap.size + 1 = b2 at *
  go_wp2_with (first | ((with_reducible refine wpList_load_ob 25 (.tmp 3) w.heap.size (tbCells (.slice a t.held.length cap) (.slice a2 t.wait.length cap2)) 25 HUT.out ?_ ?_ ?_ ?_ ?_); (exact rfl); (exact HS0.out.get 0 rfl); (exact rfl); (exact info_tb); simp only [Act.put, List.setIfInBounds_toArray, List.set_cons_zero, List.set_cons_succ]) | ((with_reducible refine wpList_load_ob_w 25 (.tmp 3) w.heap.size (tbCells (.slice a t.held.length cap) (.slice a2 t.wait.length cap2)) 25 HUT.out ?_ ?_ ?_ ?_ ?_ ?_); (exact rfl); (exact rfl); (exact HS0.out.get 0 rfl); (exact rfl); (exact info_tb); simp only [Act.put, List.setIfInBounds_toArray, List.set_cons_zero, List.set_cons_succ]))
  refine (HVa.out _ HS0.out.old).mono ?_
  rintro e w2 ⟨rfl, hb⟩
  have HS1 := Lib.hid (HS0.out.calls hb)
  clear HS0 hb HVa
  cases ok
  · go_wp2_with fail
    go_ret
    exact ⟨by rw [HV.out]; rfl, HS1.out.old⟩
  · have HMp := Lib.hid (HMo.out rfl)
    clear HMo
    have b0 : w2.cell? ⟨w.heap.size, 0, none⟩ = some (.slice a t.held.length cap) := HS1.out.at 0 rfl 0 rfl
    have b1 : w2.cell? ⟨w.heap.size, 1, none⟩ = some (.slice a2 t.wait.length cap2) := HS1.out.at 0 rfl 1 rfl
    have k0 : w2.cell? ⟨b2, 0, none⟩ = some (.int .i64 k.page) := HS1.out.at 1 rfl 0 rfl
    have k1 : w2.cell? ⟨b2, 1, none⟩ = some (.int .i64 k.slot) := HS1.out.at 1 rfl 1 rfl
    go_wp2_with fail
    refine (HMp.out _ HS1.out.old).mono ?_
    rintro e w3 ⟨rfl, hb⟩
    have HS2 := Lib.hid (HS1.out.calls hb)
    clear b0 b1 k0 k1 HS1 hb
    go_wp2_with fail
    go_ret
    exact ⟨by rw [HV.out]; rfl, HS2.out.old⟩
end Go.Proofs.Ytcnaalbpbalgdaa
/- what the program makes to find grants; what a transaction waits for; where a request goes (locks) -/
namespace Go.Proofs.Ytcnaalbpbalgdaa
open Go.RowKit
set_option maxRecDepth 20000
set_option linter.unusedSimpArgs false
set_option linter.unusedVariables false

def FnPost (g : Nat) (cs : List Value) (w : World) (e : Ending) (w' : World) : Prop :=
  ∃ b, e = .returned (.func (.func g) #[] #[.pointer (some ⟨b, 0, none⟩)]) ∧ RdIn w' [(b, 0, cs)] ∧ w.heap.size ≤ b ∧ Below w.heap.size w w'
theorem rd_new {w : World} {t : TypeId} {cs : List Value} : RdIn (w.alloc (.cells cs.toArray t)) [(w.heap.size, 0, cs)] := fun r hr => by
  obtain rfl := List.mem_singleton.1 hr
  refine ⟨by simp, fun j u hu => ?_⟩
  rw [cell_of_row _ _ _ _ _ _ (heap_alloc_last w _), List.getElem?_toArray, Nat.zero_add]
  exact hu
theorem of_any (tx : Int) (w : World) : Calls Try.prog 52 #[.int .i64 tx] w (FnPost 68 [.int .i64 tx] w) := by
  have HE : Hid (FnPost 68 [.int .i64 tx] w (.returned (.func (.func 68) #[] #[.pointer (some ⟨w.heap.size, 0, none⟩)])) (w.alloc (.cells [Value.int .i64 tx].toArray 3))) := ⟨_, rfl, rd_new, Nat.le_refl _, (Below.refl _ _).alloc (Nat.le_refl _) _⟩
  go_enter Try.func52, Try.ntmps52
  go_wp2
  go_ret
  exact HE.out
theorem against_any (g : Gr) (w : World) : Calls Try.prog 63 #[.agg (grCells g).toArray] w (FnPost 73 (grCells g) w) := by
  have HE : Hid (FnPost 73 (grCells g) w (.returned (.func (.func 73) #[] #[.pointer (some ⟨w.heap.size, 0, none⟩)])) (w.alloc (.cells (grCells g).toArray 29))) := ⟨_, rfl, rd_new, Nat.le_refl _, (Below.refl _ _).alloc (Nat.le_refl _) _⟩
  go_enter Try.func63, Try.ntmps63
  go_wp2
  go_ret
  exact HE.out
end Go.Proofs.Ytcnaalbpbalgdaa
/- the program's waiting and Waiting (locks) -/
namespace Go.Proofs.Ytcnaalbpbalgdaa
open Go.RowKit
set_option maxRecDepth 20000
set_option linter.unusedSimpArgs false
set_option linter.unusedVariables false

theorem idxR_neg {α : Type} {p : α → Bool} {l : List α} (h : idxR p l = -1) : l.all (fun x => !p x) = true := by
  unfold idxR at h
  cases hf : l.findIdx? p with
  | none =>
    rw [List.findIdx?_eq_none_iff] at hf
    exact List.all_eq_true.2 (fun x hx => by simpa using hf x hx)
  | some i => rw [hf] at h; simp at h
theorem idxR_pos {α : Type} {p : α → Bool} {l : List α} (h : ¬ idxR p l = -1) : ∃ k, ∃ hk : k < l.length, idxR p l = (k : Int) ∧ (l.take k).all (fun x => !p x) = true ∧ p l[k] = true := by
  unfold idxR at h ⊢
  cases hf : l.findIdx? p with
  | none => rw [hf] at h; exact absurd rfl h
  | some i =>
    have hf' := List.findIdx?_eq_some_iff_getElem.1 hf
    obtain ⟨hi, hx, hb⟩ := hf'
    refine ⟨i, hi, rfl, List.all_eq_true.2 (fun x hx => ?_), hx⟩
    obtain ⟨j, hj, rfl⟩ := List.mem_take_iff_getElem.1 hx
    simpa using hb j (by omega)
theorem wfind_idx (l : List Gr) (tx : Int) : (idxR (fun x : Gr => decide (x.tx = tx)) l = -1 ∧ wfind l tx = none) ∨ ∃ (k : Nat) (x : Gr), k < l.length ∧ l[k]? = some x ∧ idxR (fun x : Gr => decide (x.tx = tx)) l = (k : Int) ∧ wfind l tx = some x := by
  by_cases h : idxR (fun x : Gr => decide (x.tx = tx)) l = -1
  · refine .inl ⟨h, wfind_none_of (fun x hx => ?_)⟩
    have := List.all_eq_true.1 (idxR_neg h) x hx
    simpa using this
  · obtain ⟨k, hk, e, ha, hx⟩ := idxR_pos h
    refine .inr ⟨k, l[k], hk, List.getElem?_eq_getElem hk, e, wfind_first (fun q hq z hz => ?_) (List.getElem?_eq_getElem hk) (by simpa using hx)⟩
    have hm : z ∈ l.take k := by
      obtain ⟨h1, rfl⟩ := List.getElem?_eq_some_iff.1 hz
      exact List.mem_take_iff_getElem.2 ⟨q, by omega, rfl⟩
    have := List.all_eq_true.1 ha z hm
    simpa using this
set_option maxHeartbeats 8000000 in
theorem pwaiting_any {h v : Value} {t : Tb} {R : List Rng} (tx : Int) (w : World) (ht : TbRd h v t R) (hR : RdIn w R) (hg : GoodTb t) :
    Calls Try.prog 39 #[.agg (tbCells h v).toArray, .int .i64 tx] w fun e w' => e = .returned (.tuple #[.agg (grCells ((wfind t.wait tx).getD grNil)).toArray, .bool (wfind t.wait tx).isSome]) ∧ Below w.heap.size w w' := by
  obtain ⟨a, cap, rfl, hnc, hcm⟩ := ht.1.shape
  obtain ⟨a2, cap2, rfl, hnc2, hcm2⟩ := ht.2.shape
  obtain ⟨_, _, e2, _, _, hg0⟩ := SlRd.open ht.2 hR
  cases e2
  have HIx : Hid (∀ b W, Below w.heap.size w W → RdIn W [(b, 0, [.int .i64 tx])] → Calls Try.prog 55 #[.slice a2 t.wait.length cap2, .func (.func 68) #[] #[.pointer (some ⟨b, 0, none⟩)]] W fun e w' => e = .returned (.int .i64 (idxR (fun x : Gr => decide (x.tx = tx)) t.wait)) ∧ Below W.heap.size W w') := fun b W hb hr => idxGr_any _ _ _ t.wait _ R W eg_of ((of_at tx b t.wait).fn hr) ht.2 (hR.below hb) (by have := hg.few; omega)
  have HNw : Hid ((t.wait.length : Int) ≤ 100000) := Lib.hid (by have := hg.few; omega)
  have HWf := Lib.hid (wfind_idx t.wait tx)
  have h1 := (((Hp.start w).put 25 (tbCells (.slice a t.held.length cap) (.slice a2 t.wait.length cap2))).put 29 (grCells grNil))
  simp only [World.size_alloc, List.nil_append, List.cons_append] at h1
  have HS0 : Hid (Hp w [.ob w.heap.size 25 (tbCells (.slice a t.held.length cap) (.slice a2 t.wait.length cap2)), .ob (w.heap.size + 1) 29 (grCells grNil)] ((w.alloc (.cells (tbCells (.slice a t.held.length cap) (.slice a2 t.wait.length cap2)).toArray 25)).alloc (.cells #[.int .i64 0, .int .i64 0, .int .i64 0, .int .i64 0] 29))) := h1
  clear h1 ht hR hg hnc hcm hnc2 hcm2
  obtain ⟨fsHUG, huHUG⟩ := under_gr
  have HUG := Lib.hid huHUG
  clear huHUG
  obtain ⟨fsHUT, huHUT⟩ := under_tb
  have HUT := Lib.hid huHUT
  clear huHUT
  generalize idxR (fun x : Gr => decide (x.tx = tx)) t.wait = ix at *
  obtain ⟨wf, hwf⟩ : ∃ wf, wfind t.wait tx = wf := ⟨_, rfl⟩
  rw [hwf] at HWf ⊢
  clear hwf
  go_enter Try.func39, Try.ntmps39
  go_upto_region 1 with (fail)
  generalize ((w.alloc (.cells (tbCells (.slice a t.held.length cap) (.slice a2 t.wait.length cap2)).toArray 25)).alloc (.cells #[.int .i64 0, .int .i64 0, .int .i64 0, .int .i64 0] 29)) = w1 at *
  generalize w.heap.size + 1 = b3 at *
  refine wp_region_held_drew (S := fun w' => w'.rangeAt w.heap.size 0 (tbCells (.slice a t.held.length cap) (.slice a2 t.wait.length cap2))) (by kernel_rfl) ((fun j v hv => by rw [Nat.zero_add]; exact ((HS0.out).drew).at 0 rfl j hv)) (fun hHeld => ?_)
  refine wpAnyH_take (i := 0) (oi := { dst := some 7, op := Op.fieldAddr 25 (Operand.tmp 2) 1, type := 0, pos := "locks.go:96", after := #[], guard := none }) (v := ?q1v) rfl (by kernel_rfl) (by kernel_rfl) (by kernel_rfl) (fun _ _ _ h => h) (Or.inl ⟨by rfl, ?q1h⟩) hHeld ?q1r
  case q1h => (intro wq hSw; clear hSw; go_simp; try with_reducible rfl)
  try simp only [Act.put, List.setIfInBounds_toArray, List.set_cons_zero, List.set_cons_succ]
  refine wpAnyH_take (i := 1) (oi := { dst := some 8, op := Op.load 23 (Operand.tmp 7), type := 23, pos := "locks.go:96", after := #[{ on := 0, ground := Ground.data }], guard := none }) (v := .slice a2 t.wait.length cap2) rfl (by kernel_rfl) (by kernel_rfl) (by kernel_rfl) (fun _ _ _ h => h) (Or.inl ⟨by rfl, ?q2h⟩) hHeld ?q2r
  case q2h => (intro wq hSw; have lq := (hSw) 1 (.slice a2 t.wait.length cap2) rfl; simp only [Nat.zero_add] at lq; clear hSw; go_simp; try with_reducible rfl)
  try simp only [Act.put, List.setIfInBounds_toArray, List.set_cons_zero, List.set_cons_succ]
  refine wpAnyH_take (i := 2) (oi := { dst := some 9, op := Op.move (Operand.tmp 1), type := 3, pos := "locks.go:96", after := #[], guard := none }) (v := ?q3v) rfl (by kernel_rfl) (by kernel_rfl) (by kernel_rfl) (fun _ _ _ h => h) (Or.inl ⟨by rfl, ?q3h⟩) hHeld ?q3r
  case q3h => (intro wq hSw; clear hSw; go_simp; try with_reducible rfl)
  try simp only [Act.put, List.setIfInBounds_toArray, List.set_cons_zero, List.set_cons_succ]
  refine wpAnyH_ready (rs := [3]) (by kernel_rfl) (by simp) ?_
  refine AllReadyH.cons (o := { dst := some 10, op := Op.call { callee := Callee.value (Operand.func 52), args := #[Operand.tmp 9], argTypes := #[3] }, type := 58, pos := "locks.go:96", after := #[{ on := 2, ground := Ground.data }], guard := none }) rfl (fun K hK => ?_) (AllReadyH.nil)
  go_simp
  go_wp2_with (go_at_call 52; refine (of_any tx _).mono ?_; rintro e w21 ⟨bf, rfl, hin, hnw, hb⟩)
  have HS21 : Hid (Hp w [.ob (w.heap.size) 25 (tbCells (.slice a t.held.length cap) (.slice a2 t.wait.length cap2)), .ob b3 29 (grCells grNil), .rd [(bf, 0, [.int .i64 tx])]] w21) := ((HS0.out).drew).addrd hb [(bf, 0, [.int .i64 tx])] hin (fun r hr => .inl (by obtain rfl := List.mem_singleton.1 hr; exact hnw))
  refine hK.out _ _ ((fun j v hv => by rw [Nat.zero_add]; exact (HS21.out).at 0 rfl j hv)) (fun hHeld => ?_)
  clear hK K hb hin hnw
  try simp only [Act.put, List.setIfInBounds_toArray, List.set_cons_zero, List.set_cons_succ]
  refine wpAnyH_ready (rs := [4]) (by kernel_rfl) (by simp) ?_
  refine AllReadyH.cons (o := { dst := some 11, op := Op.call { callee := Callee.value (Operand.func 55), args := #[Operand.tmp 8, Operand.tmp 10], argTypes := #[23, 58] }, type := 3, pos := "locks.go:96", after := #[{ on := 1, ground := Ground.data }, { on := 3, ground := Ground.data }, { on := 3, ground := Ground.chain }], guard := none }) rfl (fun K hK => ?_) (AllReadyH.nil)
  go_simp
  go_wp2_with (go_at_call 55; refine (HIx.out _ _ (HS21.out).old ((HS21.out).reads 2 rfl)).mono ?_; rintro e w22 ⟨rfl, hb⟩)
  have HS22 : Hid (Hp w [.ob (w.heap.size) 25 (tbCells (.slice a t.held.length cap) (.slice a2 t.wait.length cap2)), .ob b3 29 (grCells grNil), .rd [(bf, 0, [.int .i64 tx])]] w22) := (HS21.out).calls hb
  refine hK.out _ _ ((fun j v hv => by rw [Nat.zero_add]; exact (HS22.out).at 0 rfl j hv)) (fun hHeld => ?_)
  clear hK K hb
  try simp only [Act.put, List.setIfInBounds_toArray, List.set_cons_zero, List.set_cons_succ]
  refine wpAnyH_take (i := 5) (oi := { dst := some 6, op := Op.assign (Operand.tmp 11), type := 3, pos := "locks.go:96", after := #[{ on := 4, ground := Ground.data }, { on := 4, ground := Ground.chain }, { on := 0, ground := Ground.phase }, { on := 1, ground := Ground.phase }, { on := 2, ground := Ground.phase }, { on := 3, ground := Ground.phase }, { on := 4, ground := Ground.phase }], guard := none }) (v := ?q4v) rfl (by kernel_rfl) (by kernel_rfl) (by kernel_rfl) (fun _ _ _ h => h) (Or.inl ⟨by rfl, ?q4h⟩) hHeld ?q4r
  case q4h => (intro wq hSw; clear hSw; go_simp; try with_reducible rfl)
  try simp only [Act.put, List.setIfInBounds_toArray, List.set_cons_zero, List.set_cons_succ]
  refine wpAnyH_done (by kernel_rfl) ?_ _
  clear hHeld HIx
  have HS23 : Hid (Hp w [.ob (w.heap.size) 25 (tbCells (.slice a t.held.length cap) (.slice a2 t.wait.length cap2)), .ob b3 29 (grCells grNil)] w22) := HS22.out.pull [0, 1] rfl (pull_nd HS22.out.nd [0, 1] rfl (by decide))
  clear HS22
  rcases HWf.out with ⟨hix, hwf⟩ | ⟨k, x, hk, hx, hix, hwf⟩
  · subst hix
    subst hwf
    clear HWf
    go_wp2_with (first | ((with_reducible refine wpList_build_v (d := some 19) 29 (.agg (grCells grNil).toArray) ?_ ?_); (intro W; simp only [List.map_toArray, List.map_cons, List.map_nil]; exact build_gr0 W); simp only [Act.put, List.setIfInBounds_toArray, List.set_cons_zero, List.set_cons_succ]) | ((with_reducible refine wpList_store_ob 29 (.tmp 4) b3 (grCells grNil) (grCells grNil) 29 ?_ ?_ ?_ ?_ ?_ ?_ ?_); (exact rfl); (exact rfl); (exact (HS23.out).get 1 rfl); (exact info_gr); (exact rfl); (exact (oneCell_gr _)); skip))
    have HS24 : Hid (Hp w [.ob (w.heap.size) 25 (tbCells (.slice a t.held.length cap) (.slice a2 t.wait.length cap2)), .ob b3 29 (grCells grNil)] (w22.setRow b3 (grCells grNil).toArray)) := (HS23.out).row 1 rfl (grCells grNil)
    clear HS23
    generalize (w22.setRow b3 (grCells grNil).toArray) = w23 at *
    refine bodyPost_ret (results_ob_tmp Try.results39 _ _ b3 (grCells grNil) 29 _ rfl ((HS24.out).get 1 rfl) HUG.out rfl info_gr) rfl ?_
    exact ⟨rfl, (HS24.out).old⟩
  · obtain ⟨g, off, rfl, hr⟩ := hg0.out (by omega)
    have HRg := Lib.hid hr
    have HXi := Lib.hid hx
    have hk0 : (0 : Int) ≤ (k : Int) := by omega
    have hki : (k : Int) < (t.wait.length : Int) := by omega
    subst hix
    subst hwf
    have b1 : w22.cell? ⟨w.heap.size, 1, none⟩ = some (.slice (some ⟨g, off, none⟩) t.wait.length cap2) := (HS23.out).at 0 rfl 1 rfl
    clear hr hx hk hg0 HWf
    go_wp2_with (first | ((with_reducible refine wpList_load_at 29 (.tmp 17) g ((off + k * 4)) (grCells x) HUG.out ?_ ?_ ?_ ?_ ?_); (exact rfl); (exact (elem_rng (HRg.out _ (HS23.out).old) HXi.out)); (exact rfl); (exact info_gr); simp only [Act.put, List.setIfInBounds_toArray, List.set_cons_zero, List.set_cons_succ]) | ((with_reducible refine wpList_store_ob 29 (.tmp 4) b3 (grCells x) (grCells grNil) 29 ?_ ?_ ?_ ?_ ?_ ?_ ?_); (exact rfl); (exact rfl); (exact (HS23.out).get 1 rfl); (exact info_gr); (exact rfl); (exact (oneCell_gr _)); skip))
    have HS64 : Hid (Hp w [.ob (w.heap.size) 25 (tbCells (.slice a t.held.length cap) (.slice (some ⟨g, off, none⟩) t.wait.length cap2)), .ob b3 29 (grCells x)] (w22.setRow b3 (grCells x).toArray)) := (HS23.out).row 1 rfl (grCells x)
    clear HS23
    generalize (w22.setRow b3 (grCells x).toArray) = w63 at *
    refine bodyPost_ret (results_ob_tmp Try.results39 _ _ b3 (grCells x) 29 _ rfl ((HS64.out).get 1 rfl) HUG.out rfl info_gr) rfl ?_
    exact ⟨rfl, (HS64.out).old⟩
end Go.Proofs.Ytcnaalbpbalgdaa
/- the program's Waiting and turn (locks) -/
namespace Go.Proofs.Ytcnaalbpbalgdaa
open Go.RowKit
set_option maxRecDepth 20000
set_option linter.unusedSimpArgs false
set_option linter.unusedVariables false

set_option maxHeartbeats 8000000 in
theorem pWaiting_any {h v : Value} {t : Tb} {R : List Rng} (tx : Int) (w : World) (ht : TbRd h v t R) (hR : RdIn w R) (hg : GoodTb t) :
    Calls Try.prog 24 #[.agg (tbCells h v).toArray, .int .i64 tx] w fun e w' => e = .returned (.tuple #[.agg (grCells (waitR t tx).1).toArray, .bool (waitR t tx).2]) ∧ Below w.heap.size w w' := by
  obtain ⟨a, cap, rfl, hnc, hcm⟩ := ht.1.shape
  obtain ⟨a2, cap2, rfl, hnc2, hcm2⟩ := ht.2.shape
  have HVa : Hid (∀ W, Below w.heap.size w W → Calls Try.prog 12 #[.agg (tbCells (.slice a t.held.length cap) (.slice a2 t.wait.length cap2)).toArray] W fun e w' => e = .returned (.bool (tbOkB t)) ∧ Below W.heap.size W w') := fun W hb => plkvalid_any W ht (hR.below hb) hg
  have HWa : Hid (∀ W, Below w.heap.size w W → Calls Try.prog 39 #[.agg (tbCells (.slice a t.held.length cap) (.slice a2 t.wait.length cap2)).toArray, .int .i64 tx] W fun e w' => e = .returned (.tuple #[.agg (grCells ((wfind t.wait tx).getD grNil)).toArray, .bool (wfind t.wait tx).isSome]) ∧ Below W.heap.size W w') := fun W hb => pwaiting_any tx W ht (hR.below hb) hg
  have HV : Hid (waitR t tx = if tbOkB t = true then ((wfind t.wait tx).getD grNil, (wfind t.wait tx).isSome) else (grNil, false)) := rfl
  have h1 := (((Hp.start w).put 25 (tbCells (.slice a t.held.length cap) (.slice a2 t.wait.length cap2))).put 29 (grCells grNil))
  simp only [World.size_alloc, List.nil_append, List.cons_append] at h1
  have HS0 : Hid (Hp w [.ob w.heap.size 25 (tbCells (.slice a t.held.length cap) (.slice a2 t.wait.length cap2)), .ob (w.heap.size + 1) 29 (grCells grNil)] ((w.alloc (.cells (tbCells (.slice a t.held.length cap) (.slice a2 t.wait.length cap2)).toArray 25)).alloc (.cells #[.int .i64 0, .int .i64 0, .int .i64 0, .int .i64 0] 29))) := h1
  clear h1 ht hR hg hnc hcm hnc2 hcm2
  obtain ⟨fsHUG, huHUG⟩ := under_gr
  have HUG := Lib.hid huHUG
  clear huHUG
  obtain ⟨fsHUT, huHUT⟩ := under_tb
  have HUT := Lib.hid huHUT
  clear huHUT
  generalize tbOkB t = ok at *
  generalize (wfind t.wait tx).getD grNil = wx at *
  generalize (wfind t.wait tx).isSome = wb at *
  obtain ⟨rq, hrq⟩ : ∃ rq, waitR t tx = rq := ⟨_, rfl⟩
  rw [hrq] at HV ⊢
  clear hrq
  go_enter Try.func24, Try.ntmps24
  go_upto_region 1 with (fail)
  generalize ((w.alloc (.cells (tbCells (.slice a t.held.length cap) (.slice a2 t.wait.length cap2)).toArray 25)).alloc (.cells #[.int .i64 0, .int .i64 0, .int .i64 0, .int .i64 0] 29)) = w1 at *
  generalize w.heap.size + 1 = b3 at *
  go_wp2_with (first | ((with_reducible refine wpList_load_ob 25 (.tmp 2) (w.heap.size) (tbCells (.slice a t.held.length cap) (.slice a2 t.wait.length cap2)) 25 HUT.out ?_ ?_ ?_ ?_ ?_); (exact rfl); (exact (HS0.out).get 0 rfl); (exact rfl); (exact info_tb); simp only [Act.put, List.setIfInBounds_toArray, List.set_cons_zero, List.set_cons_succ]))
  refine (HVa.out _ (HS0.out).old).mono ?_
  rintro e w21 ⟨rfl, hb⟩
  have HS21 : Hid (Hp w [.ob (w.heap.size) 25 (tbCells (.slice a t.held.length cap) (.slice a2 t.wait.length cap2)), .ob b3 29 (grCells grNil)] w21) := (HS0.out).calls hb
  clear hb
  clear HS0
  cases ok
  · skip
    go_wp2_with (first | ((with_reducible refine wpList_build_v (d := some 9) 29 (.agg (grCells grNil).toArray) ?_ ?_); (intro W; simp only [List.map_toArray, List.map_cons, List.map_nil]; exact build_gr0 W); simp only [Act.put, List.setIfInBounds_toArray, List.set_cons_zero, List.set_cons_succ]) | ((with_reducible refine wpList_store_ob 29 (.tmp 4) b3 (grCells grNil) (grCells grNil) 29 ?_ ?_ ?_ ?_ ?_ ?_ ?_); (exact rfl); (exact rfl); (exact (HS21.out).get 1 rfl); (exact info_gr); (exact rfl); (exact (oneCell_gr _)); skip))
    have HS22 : Hid (Hp w [.ob (w.heap.size) 25 (tbCells (.slice a t.held.length cap) (.slice a2 t.wait.length cap2)), .ob b3 29 (grCells grNil)] (w21.setRow b3 (grCells grNil).toArray)) := (HS21.out).row 1 rfl (grCells grNil)
    clear HS21
    generalize (w21.setRow b3 (grCells grNil).toArray) = w22 at *
    refine bodyPost_ret (results_ob_tmp Try.results24 _ _ b3 (grCells grNil) 29 _ rfl ((HS22.out).get 1 rfl) HUG.out rfl info_gr) rfl ?_
    exact ⟨by rw [HV.out]; rfl, (HS22.out).old⟩
  · skip
    go_wp2_with (first | ((with_reducible refine wpList_load_ob 25 (.tmp 2) (w.heap.size) (tbCells (.slice a t.held.length cap) (.slice a2 t.wait.length cap2)) 25 HUT.out ?_ ?_ ?_ ?_ ?_); (exact rfl); (exact (HS21.out).get 0 rfl); (exact rfl); (exact info_tb); simp only [Act.put, List.setIfInBounds_toArray, List.set_cons_zero, List.set_cons_succ]))
    refine (HWa.out _ (HS21.out).old).mono ?_
    rintro e w62 ⟨rfl, hb⟩
    have HS62 : Hid (Hp w [.ob (w.heap.size) 25 (tbCells (.slice a t.held.length cap) (.slice a2 t.wait.length cap2)), .ob b3 29 (grCells grNil)] w62) := (HS21.out).calls hb
    clear hb
    clear HS21
    go_wp2_with (first | ((with_reducible refine wpList_store_ob 29 (.tmp 4) b3 (grCells wx) (grCells grNil) 29 ?_ ?_ ?_ ?_ ?_ ?_ ?_); (exact rfl); (exact rfl); (exact (HS62.out).get 1 rfl); (exact info_gr); (exact rfl); (exact (oneCell_gr _)); skip))
    have HS63 : Hid (Hp w [.ob (w.heap.size) 25 (tbCells (.slice a t.held.length cap) (.slice a2 t.wait.length cap2)), .ob b3 29 (grCells wx)] (w62.setRow b3 (grCells wx).toArray)) := (HS62.out).row 1 rfl (grCells wx)
    clear HS62
    generalize (w62.setRow b3 (grCells wx).toArray) = w63 at *
    refine bodyPost_ret (results_ob_tmp Try.results24 _ _ b3 (grCells wx) 29 _ rfl ((HS63.out).get 1 rfl) HUG.out rfl info_gr) rfl ?_
    exact ⟨by rw [HV.out]; rfl, (HS63.out).old⟩
def passB (h : List Gr) (g : Gr) (x : Gr) : Bool := decide (x.page = g.page) && (decide (x.slot = g.slot) && decide (modeG h x = 0))
theorem up_dec {h : List Gr} (hok : ∀ g ∈ h, GrOk g) (x : Gr) : decide (0 < modeG h x) = !decide (modeG h x = 0) := by
  have := modeR_ge hok x.tx x.page x.slot
  by_cases h0 : modeG h x = 0
  · rw [decide_eq_true h0]
    have : ¬ 0 < modeG h x := by omega
    rw [decide_eq_false this]; rfl
  · rw [decide_eq_false h0]
    have : 0 < modeG h x := by unfold modeG at h0 ⊢; omega
    rw [decide_eq_true this]; rfl
theorem eg_turn : EntersF 59 := enters_of Try.func59 (by kernel_rfl) rfl
set_option maxHeartbeats 4000000 in
theorem turn_at {hv v : Value} (t : Tb) (R : List Rng) (g : Gr) (hg : GoodGr g) (ht : TbRd hv v t R) (hh : HeldOk t.held) (hl : t.held.length ≤ 200000) (b c : Nat) (l : List Gr) (hgo : ∀ x ∈ l, GoodGr x) :
    GrAt 59 #[.pointer (some ⟨b, 0, none⟩), .pointer (some ⟨c, 0, none⟩)] (passB t.held g) l ([(b, 0, grCells g), (c, 0, tbCells hv v)] ++ R) := by
  intro W x hx hR
  have hb := hR (b, 0, grCells g) (by simp)
  have hc := hR (c, 0, tbCells hv v) (by simp)
  have hr : RdIn W R := hR.sub (fun r h => List.mem_append_right _ h)
  obtain ⟨a, cap, rfl, _, _⟩ := ht.1.shape
  have HUp : Hid (∀ V, Below W.heap.size W V → Calls Try.prog 60 #[.slice a t.held.length cap, .agg (grCells x).toArray] V fun e w' => e = .returned (.bool (decide (0 < modeG t.held x))) ∧ Below V.heap.size V w') := fun V h2 => upgrade_any x t.held _ R V hh.up ht.1 (hr.below h2) hl
  have HLtb : Hid (b < W.heap.size) := hb.1
  have HLtc : Hid (c < W.heap.size) := hc.1
  have g1 : W.cell? ⟨b, 1, none⟩ = some (.int .i64 g.page) := hb.2 1 _ rfl
  have g2 : W.cell? ⟨b, 2, none⟩ = some (.int .i64 g.slot) := hb.2 2 _ rfl
  have c0 : W.cell? ⟨c, 0, none⟩ = some (.slice a t.held.length cap) := hc.2 0 _ rfl
  have hq : ∀ W, Sem.run Try.prog (binOp .eql 27 (.agg #[.int .i64 x.page, .int .i64 x.slot]) (.agg #[.int .i64 g.page, .int .i64 g.slot])) W = .ok (.bool (sameV x.lock g.lock)) W := fun W => run_eql (equal_lk x.lock g.lock (hgo x hx).lock hg.lock) W
  have hs := lock_same x g.lock
  have HV : Hid (passB t.held g x = (sameV x.lock g.lock && !decide (0 < modeG t.held x))) := Lib.hid (by unfold passB; rw [hs, up_dec hh.ok, Bool.not_not, Bool.and_assoc])
  have h1 := (Hp.start W).put 29 (grCells x)
  have HS0 : Hid (Hp W [.ob W.heap.size 29 (grCells x)] (W.alloc (.cells (grCells x).toArray 29))) := h1
  clear h1 hR hb hc hg hgo hs hr ht hh hl
  obtain ⟨fs, hu⟩ := under_gr
  have HUG := Lib.hid hu
  clear hu
  generalize sameV x.lock g.lock = q at *
  obtain ⟨pb, hpb⟩ : ∃ pb, passB t.held g x = pb := ⟨_, rfl⟩
  show Calls Try.prog 59 #[.agg (grCells x).toArray, .pointer (some ⟨b, 0, none⟩), .pointer (some ⟨c, 0, none⟩)] W fun e w' => e = .returned (.bool (passB t.held g x)) ∧ Below W.heap.size W w'
  rw [hpb] at HV ⊢
  clear hpb
  generalize decide (0 < modeG t.held x) = up at *
  go_enter Try.func59, Try.ntmps59
  go_upto_region 1 with (fail)
  have x1 : (W.alloc (.cells (grCells x).toArray 29)).cell? ⟨W.heap.size, 1, none⟩ = some (.int .i64 x.page) := HS0.out.at 0 rfl 1 rfl
  have x2 : (W.alloc (.cells (grCells x).toArray 29)).cell? ⟨W.heap.size, 2, none⟩ = some (.int .i64 x.slot) := HS0.out.at 0 rfl 2 rfl
  have dg1 := (HS0.out.old.cell (p := ⟨b, 1, none⟩) HLtb.out).trans g1
  have dg2 := (HS0.out.old.cell (p := ⟨b, 2, none⟩) HLtb.out).trans g2
  have dc0 := (HS0.out.old.cell (p := ⟨c, 0, none⟩) HLtc.out).trans c0
  clear g1 g2 c0
  generalize (W.alloc (.cells (grCells x).toArray 29)) = w1 at *
  cases q
  · have HX : Hid (pb = false) := Lib.hid (by rw [HV.out]; rfl)
    go_wp2_with fail
    go_ret
    exact ⟨by rw [HX.out]; rfl, HS0.out.old⟩
  · have HX : Hid (pb = !up) := Lib.hid (by rw [HV.out]; rfl)
    go_wp2_with (first | ((with_reducible refine wpList_load_ob_w 29 (.tmp 3) W.heap.size (grCells x) 29 HUG.out ?_ ?_ ?_ ?_ ?_ ?_); (exact rfl); (exact rfl); (exact HS0.out.get 0 rfl); (exact rfl); (exact info_gr); simp only [Act.put, List.setIfInBounds_toArray, List.set_cons_zero, List.set_cons_succ]))
    refine (HUp.out _ HS0.out.old).mono ?_
    rintro e w2 ⟨rfl, hb⟩
    have HS1 := Lib.hid (HS0.out.calls hb)
    clear hb x1 x2 dg1 dg2 dc0 HS0
    go_wp2_with fail
    go_ret
    exact ⟨by rw [HX.out]; rfl, HS1.out.old⟩
theorem wplace_idx (h l : List Gr) (g : Gr) : (idxR (passB h g) l = -1 ∧ wplaceR h l g = l.length) ∨ ∃ k : Nat, k < l.length ∧ idxR (passB h g) l = (k : Int) ∧ (wplaceR h l g = if modeG h g = 0 then l.length else k) := by
  by_cases hi : idxR (passB h g) l = -1
  · refine .inl ⟨hi, ?_⟩
    unfold wplaceR
    split
    · rfl
    · rw [List.findIdx_eq_length]
      intro x hx
      have := List.all_eq_true.1 (idxR_neg hi) x hx
      unfold passB at this
      rw [Bool.not_eq_true'] at this
      exact this
  · obtain ⟨k, hk, e, ha, hx⟩ := idxR_pos hi
    refine .inr ⟨k, hk, e, ?_⟩
    unfold wplaceR
    split
    · rfl
    · rw [List.findIdx_eq hk]
      refine ⟨by unfold passB at hx; exact hx, fun j hj => ?_⟩
      have hm : l[j] ∈ l.take k := List.mem_take_iff_getElem.2 ⟨j, by omega, rfl⟩
      have := List.all_eq_true.1 ha _ hm
      unfold passB at this
      rw [Bool.not_eq_true'] at this
      exact this
set_option maxHeartbeats 8000000 in
theorem turn_any {h v : Value} {t : Tb} {R : List Rng} (g : Gr) (w : World) (ht : TbRd h v t R) (hR : RdIn w R) (hg : GoodTb t) (hk : GoodGr g) (hh : HeldOk t.held) :
    Calls Try.prog 44 #[.agg (tbCells h v).toArray, .agg (grCells g).toArray] w fun e w' => e = .returned (.int .i64 (wplaceR t.held t.wait g : Nat)) ∧ Below w.heap.size w w' := by
  obtain ⟨a, cap, rfl, hnc, hcm⟩ := ht.1.shape
  obtain ⟨a2, cap2, rfl, hnc2, hcm2⟩ := ht.2.shape
  have HIx : Hid (∀ b c W, Below w.heap.size w W → RdIn W [(b, 0, grCells g), (c, 0, tbCells (.slice a t.held.length cap) (.slice a2 t.wait.length cap2))] → Calls Try.prog 55 #[.slice a2 t.wait.length cap2, .func (.func 59) #[] #[.pointer (some ⟨b, 0, none⟩), .pointer (some ⟨c, 0, none⟩)]] W fun e w' => e = .returned (.int .i64 (idxR (passB t.held g) t.wait)) ∧ Below W.heap.size W w') := fun b c W hb hr => idxGr_any _ _ _ t.wait _ R W eg_turn ((turn_at t R g hk ht hh (by have := hg.few; omega) b c t.wait hg.wait).fn (hr.append (hR.below hb))) ht.2 (hR.below hb) (by have := hg.few; omega)
  have HUp : Hid (∀ W, Below w.heap.size w W → Calls Try.prog 60 #[.slice a t.held.length cap, .agg (grCells g).toArray] W fun e w' => e = .returned (.bool (decide (0 < modeG t.held g))) ∧ Below W.heap.size W w') := fun W hb => upgrade_any g t.held _ R W hh.up ht.1 (hR.below hb) (by have := hg.few; omega)
  have HUd := Lib.hid (up_dec hh.ok g)
  have HWp := Lib.hid (wplace_idx t.held t.wait g)
  have HNw : Hid ((t.wait.length : Int) ≤ 100000) := Lib.hid (by have := hg.few; omega)
  have h1 := (((Hp.start w).put 25 (tbCells (.slice a t.held.length cap) (.slice a2 t.wait.length cap2))).put 29 (grCells g))
  simp only [World.size_alloc, List.nil_append, List.cons_append] at h1
  have HS0 : Hid (Hp w [.ob w.heap.size 25 (tbCells (.slice a t.held.length cap) (.slice a2 t.wait.length cap2)), .ob (w.heap.size + 1) 29 (grCells g)] ((w.alloc (.cells (tbCells (.slice a t.held.length cap) (.slice a2 t.wait.length cap2)).toArray 25)).alloc (.cells (grCells g).toArray 29))) := h1
  clear h1 ht hR hg hk hh hnc hcm hnc2 hcm2
  obtain ⟨fsHUG, huHUG⟩ := under_gr
  have HUG := Lib.hid huHUG
  clear huHUG
  obtain ⟨fsHUT, huHUT⟩ := under_tb
  have HUT := Lib.hid huHUT
  clear huHUT
  generalize idxR (passB t.held g) t.wait = ix at *
  obtain ⟨wp, hwp⟩ : ∃ wp, wplaceR t.held t.wait g = wp := ⟨_, rfl⟩
  rw [hwp] at HWp ⊢
  clear hwp
  generalize decide (0 < modeG t.held g) = up at *
  go_enter Try.func44, Try.ntmps44
  go_upto_region 1 with (fail)
  generalize ((w.alloc (.cells (tbCells (.slice a t.held.length cap) (.slice a2 t.wait.length cap2)).toArray 25)).alloc (.cells (grCells g).toArray 29)) = w1 at *
  generalize hb3 : w.heap.size + 1 = b3 at *
  have b1 : w1.cell? ⟨w.heap.size, 1, none⟩ = some (.slice a2 t.wait.length cap2) := HS0.out.at 0 rfl 1 rfl
  go_wp2_with fail
  have hrd : RdIn w1 [(b3, 0, grCells g), (w.heap.size, 0, tbCells (.slice a t.held.length cap) (.slice a2 t.wait.length cap2))] := fun r hr => by
    rcases List.mem_cons.1 hr with rfl | hr
    · exact ⟨(HS0.out.lt 1 rfl rfl).2, fun j v hv => by rw [Nat.zero_add]; exact HS0.out.at 1 rfl j hv⟩
    · obtain rfl := List.mem_singleton.1 hr
      exact ⟨(HS0.out.lt 0 rfl rfl).2, fun j v hv => by rw [Nat.zero_add]; exact HS0.out.at 0 rfl j hv⟩
  refine (HIx.out _ _ _ HS0.out.old hrd).mono ?_
  rintro e w2 ⟨rfl, hb⟩
  have HS1 := Lib.hid (HS0.out.calls hb)
  clear hb hrd HIx b1 HS0
  have b0 : w2.cell? ⟨w.heap.size, 0, none⟩ = some (.slice a t.held.length cap) := HS1.out.at 0 rfl 0 rfl
  have b1 : w2.cell? ⟨w.heap.size, 1, none⟩ = some (.slice a2 t.wait.length cap2) := HS1.out.at 0 rfl 1 rfl
  rcases HWp.out with ⟨hix, hwp⟩ | ⟨k, hk, hix, hwp⟩
  · subst hix
    have HX := Lib.hid hwp
    clear hwp HWp HUp
    go_wp2_with fail
    go_ret
    exact ⟨by rw [HX.out]; rfl, HS1.out.old⟩
  · subst hix
    have HX := Lib.hid hwp
    have hk0 : (0 : Int) ≤ (k : Int) := by omega
    clear hwp HWp hk
    go_wp2_with (first | ((with_reducible refine wpList_load_ob_w 29 (.tmp 3) b3 (grCells g) 29 HUG.out ?_ ?_ ?_ ?_ ?_ ?_); (exact rfl); (exact rfl); (exact HS1.out.get 1 rfl); (exact rfl); (exact info_gr); simp only [Act.put, List.setIfInBounds_toArray, List.set_cons_zero, List.set_cons_succ]))
    refine (HUp.out _ HS1.out.old).mono ?_
    rintro e w3 ⟨rfl, hb⟩
    have HS2 := Lib.hid (HS1.out.calls hb)
    clear hb HUp b0 b1 HS1
    have b0 : w3.cell? ⟨w.heap.size, 0, none⟩ = some (.slice a t.held.length cap) := HS2.out.at 0 rfl 0 rfl
    have b1 : w3.cell? ⟨w.heap.size, 1, none⟩ = some (.slice a2 t.wait.length cap2) := HS2.out.at 0 rfl 1 rfl
    cases up
    · have HX2 : Hid (wp = t.wait.length) := Lib.hid (by
        have h := HUd.out
        have h0 : modeG t.held g = 0 := by simpa using h
        rw [HX.out, if_pos h0])
      go_wp2_with fail
      go_ret
      exact ⟨by rw [HX2.out]; rfl, HS2.out.old⟩
    · have HX2 : Hid (wp = k) := Lib.hid (by
        have h := HUd.out
        have h0 : ¬ modeG t.held g = 0 := by simpa using h
        rw [HX.out, if_neg h0])
      go_wp2_with fail
      go_ret
      exact ⟨by rw [HX2.out]; rfl, HS2.out.old⟩
end Go.Proofs.Ytcnaalbpbalgdaa
/- rows of whole elements that are written in place -/
namespace Go.Proofs.Ytcnaalbpbalgdaa
open Go.RowKit
set_option maxRecDepth 20000
set_option linter.unusedSimpArgs false
set_option linter.unusedVariables false

theorem run_inj {a b : World} (h : (Result.ok () a : Result Unit) = .ok () b) : a = b := by injection h
theorem setCells_row {W : World} {g o : Nat} {cs cur : List Value} {t : TypeId} (hg : W.heap[g]? = some (.cells cur.toArray t (0, 0))) (hfit : o + cs.length ≤ cur.length) (h1 : ∀ v ∈ cs, v.oneCell' = true) :
    W.setCells g o cs = W.setRow g (splice cur o cs).toArray := by
  have a := run_storeCells_at Try.prog g o t cs 0 cur.toArray W hg (by simpa using hfit) h1
  have b := run_storeCells_cells (P := Try.prog) g o cs 0 W (fun j hj => by
    rw [Nat.add_zero, cell_of_row W g (o + j) _ _ _ hg, List.getElem?_toArray, List.getElem?_eq_getElem (by omega)]; rfl) (fun j hj => frozen_of_row _ _ _ _ _ hg) h1
  rw [a] at b
  simp only [Nat.add_zero] at b
  rw [← run_inj b]
  unfold splice
  rw [List.append_assoc]
theorem grown_setRow (W : World) (g : Nat) (cs : Array Value) : W.grownBy (W.setRow g cs) (some g) := ⟨rfl, rfl, rfl, by simp [World.setRow], fun k hk hne => setRow_other W g k cs (fun e => hne (by rw [e]))⟩
theorem grown_trans {a b c : World} {r : Option Nat} (h : a.grownBy b r) (k : b.grownBy c r) : a.grownBy c r := ⟨k.os.trans h.os, k.tape.trans h.tape, k.output.trans h.output, Nat.le_trans h.size k.size, fun i hi hne => (k.block i (Nat.lt_of_lt_of_le hi h.size) hne).trans (h.block i hi hne)⟩
theorem grown_below {a b : World} {r : Option Nat} (h : Below a.heap.size a b) : a.grownBy b r := ⟨h.os, h.tape, h.output, h.size, fun k hk _ => h.block k hk⟩
theorem grown_then {a b c : World} {r : Option Nat} (h : a.grownBy b r) (k : Below b.heap.size b c) : a.grownBy c r := grown_trans h (grown_below k)
section
variable {α : Type} {enc : α → List Value} {z : Nat}
def encRow (enc : α → List Value) (ys : List α) : List Value := ys.flatMap enc
theorem encRow_len (hz : ∀ x, (enc x).length = z) : ∀ ys : List α, (encRow enc ys).length = ys.length * z
  | [] => by simp [encRow]
  | y :: l => by
    show (enc y ++ encRow enc l).length = _
    rw [List.length_append, hz, encRow_len hz l, List.length_cons, Nat.add_mul]; omega
theorem encRow_append (a b : List α) : encRow enc (a ++ b) = encRow enc a ++ encRow enc b := List.flatMap_append
theorem encRow_at (hz : ∀ x, (enc x).length = z) (rest : List Value) {ys : List α} {k : Nat} (h : k < ys.length) : ∀ j v, (enc ys[k])[j]? = some v → (encRow enc ys ++ rest)[k * z + j]? = some v := by
  intro j v hv
  have hj := (List.getElem?_eq_some_iff.1 hv).1
  rw [hz] at hj
  have e : ys = ys.take k ++ (ys[k] :: ys.drop (k + 1)) := by rw [List.getElem_cons_drop, List.take_append_drop]
  have e2 : encRow enc ys = encRow enc (ys.take k) ++ (enc ys[k] ++ encRow enc (ys.drop (k + 1))) := by
    conv => lhs; rw [e]
    rw [encRow_append]
    rfl
  have l1 : (encRow enc (ys.take k)).length = k * z := by rw [encRow_len hz, List.length_take, Nat.min_eq_left (by omega)]
  rw [e2, List.append_assoc, List.getElem?_append_right (by omega), l1, Nat.add_sub_cancel_left, List.append_assoc, List.getElem?_append_left (by rw [hz]; exact hj)]
  exact hv
theorem encRow_set (hz : ∀ x, (enc x).length = z) (rest : List Value) {ys : List α} {k : Nat} (h : k < ys.length) (y : α) : splice (encRow enc ys ++ rest) (k * z) (enc y) = encRow enc (ys.set k y) ++ rest := by
  have e : ys = ys.take k ++ (ys[k] :: ys.drop (k + 1)) := by rw [List.getElem_cons_drop, List.take_append_drop]
  have e2 : encRow enc ys = encRow enc (ys.take k) ++ (enc ys[k] ++ encRow enc (ys.drop (k + 1))) := by
    conv => lhs; rw [e]
    rw [encRow_append]
    rfl
  have e3 : encRow enc (ys.set k y) = encRow enc (ys.take k) ++ (enc y ++ encRow enc (ys.drop (k + 1))) := by
    rw [List.set_eq_take_append_cons_drop, if_pos h, encRow_append]
    rfl
  have l1 : (encRow enc (ys.take k)).length = k * z := by rw [encRow_len hz, List.length_take, Nat.min_eq_left (by omega)]
  unfold splice
  rw [e2, e3, hz, List.append_assoc, List.take_append_of_le_length (by omega), List.take_of_length_le (by omega), List.drop_append, l1, List.drop_of_length_le (by omega), List.nil_append, Nat.add_sub_cancel_left, List.append_assoc, List.drop_append, hz, List.drop_of_length_le (by rw [hz]; omega), List.nil_append, Nat.sub_self, List.drop_zero, List.append_assoc, List.append_assoc]
theorem encRow_clear (hz : ∀ x, (enc x).length = z) (rest : List Value) {ys : List α} {i : Nat} (h : i ≤ ys.length) (zr : α) : splice (encRow enc ys ++ rest) (i * z) (encRow enc (List.replicate (ys.length - i) zr)) = encRow enc (ys.take i ++ List.replicate (ys.length - i) zr) ++ rest := by
  have e2 : encRow enc ys = encRow enc (ys.take i) ++ encRow enc (ys.drop i) := by rw [← encRow_append, List.take_append_drop]
  have l1 : (encRow enc (ys.take i)).length = i * z := by rw [encRow_len hz, List.length_take, Nat.min_eq_left h]
  have l2 : (encRow enc (ys.drop i)).length = (ys.length - i) * z := by rw [encRow_len hz, List.length_drop]
  have l3 : (encRow enc (List.replicate (ys.length - i) zr)).length = (ys.length - i) * z := by rw [encRow_len hz, List.length_replicate]
  unfold splice
  rw [encRow_append, e2, l3, List.append_assoc, List.take_append_of_le_length (by omega), List.take_of_length_le (by omega), List.drop_append, l1, List.drop_of_length_le (by omega), List.nil_append, Nat.add_sub_cancel_left, List.drop_append, l2, List.drop_of_length_le (by omega), List.nil_append, Nat.sub_self, List.drop_zero, List.append_assoc]
/-- what a search that strikes elements has done so far -/
structure KeptR (p : α → Bool) (l : List α) (j i : Nat) (ys : List α) : Prop where
  len : ys.length = l.length
  num : i = ((l.take j).filter fun x => !p x).length
  low : ys.take i = (l.take j).filter fun x => !p x
  high : ys.drop j = l.drop j
  lt : i < j
theorem KeptR.start {p : α → Bool} {l : List α} {k : Nat} (hk : k < l.length) (hb : (l.take k).all (fun x => !p x) = true) (hx : p l[k] = true) : KeptR p l (k + 1) k l := by
  have e : (l.take (k + 1)).filter (fun x => !p x) = l.take k := by
    rw [List.take_succ_eq_append_getElem hk, List.filter_append, List.filter_eq_self.2 (List.all_eq_true.1 hb)]
    simp [hx]
  exact ⟨rfl, by rw [e, List.length_take]; omega, e.symm, rfl, Nat.lt_succ_self _⟩
theorem KeptR.at {p : α → Bool} {l : List α} {j i : Nat} {ys : List α} (h : KeptR p l j i ys) (hj : j < l.length) : ys[j]'(by rw [h.len]; exact hj) = l[j] := by
  have := congrArg (fun m => m[0]?) h.high
  simp only [List.getElem?_drop, Nat.add_zero] at this
  rw [List.getElem?_eq_getElem (by rw [h.len]; exact hj), List.getElem?_eq_getElem hj] at this
  exact Option.some.inj this
theorem KeptR.keep {p : α → Bool} {l : List α} {j i : Nat} {ys : List α} (h : KeptR p l j i ys) (hj : j < l.length) (hx : p l[j] = false) : KeptR p l (j + 1) (i + 1) (ys.set i l[j]) := by
  have e : (l.take (j + 1)).filter (fun x => !p x) = (l.take j).filter (fun x => !p x) ++ [l[j]] := by
    rw [List.take_succ_eq_append_getElem hj, List.filter_append]
    simp [hx]
  have hlt := h.lt
  have hlen := h.len
  refine ⟨by rw [List.length_set]; exact hlen, by rw [e, List.length_append, ← h.num]; rfl, ?_, ?_, by omega⟩
  · rw [e, ← h.low, List.take_succ_eq_append_getElem (by rw [List.length_set]; omega), List.getElem_set_self]
    congr 1
    rw [List.take_set_of_le (Nat.le_refl _)]
  · rw [List.drop_set_of_lt (by omega)]
    have := congrArg (List.drop 1) h.high
    rw [List.drop_drop, List.drop_drop] at this
    exact this
theorem KeptR.skip {p : α → Bool} {l : List α} {j i : Nat} {ys : List α} (h : KeptR p l j i ys) (hj : j < l.length) (hx : p l[j] = true) : KeptR p l (j + 1) i ys := by
  have e : (l.take (j + 1)).filter (fun x => !p x) = (l.take j).filter (fun x => !p x) := by
    rw [List.take_succ_eq_append_getElem hj, List.filter_append]
    simp [hx]
  have hlt := h.lt
  refine ⟨h.len, by rw [e]; exact h.num, by rw [e]; exact h.low, ?_, by omega⟩
  have := congrArg (List.drop 1) h.high
  rw [List.drop_drop, List.drop_drop] at this
  exact this
theorem KeptR.done {p : α → Bool} {l : List α} {i : Nat} {ys : List α} (h : KeptR p l l.length i ys) : ys.take i = l.filter (fun x => !p x) ∧ i = (l.filter fun x => !p x).length := by
  have h1 := h.low
  have h2 := h.num
  rw [List.take_length] at h1 h2
  exact ⟨h1, h2⟩
end
/-- a slice of its own, opened: its block's row -/
theorem own_open {α : Type} {enc : α → List Value} {z : Nat} (hz : ∀ x, (enc x).length = z) {B : Nat} {W : World} {e : TypeId} {n : Nat} {l : List α} {v : Value} (h : W.ownsRow B e z v n (encRow enc l)) (hn : n = l.length) (h0 : 0 < z) :
    (v = .slice none 0 0 ∧ l = []) ∨ ∃ g cap rest, v = .slice (some ⟨g, 0, none⟩) l.length cap ∧ B ≤ g ∧ W.heap[g]? = some (.cells (encRow enc l ++ rest).toArray e (0, 0)) ∧ l.length ≤ cap ∧ cap ≤ maxLen ∧ (encRow enc l ++ rest).length = cap * z := by
  subst hn
  rcases h.2 with ⟨hv, h1⟩ | ⟨g, cap, cur, hv, hB, hg, h1, h2, h3, h4⟩
  · exact .inl ⟨hv, List.eq_nil_of_length_eq_zero h1⟩
  · refine .inr ⟨g, cap, cur.toList.drop (l.length * z), hv, hB, ?_, h1, h2, ?_⟩
    · rw [hg, ← h4, List.take_append_drop]
    · rw [← h4, List.take_append_drop]; simpa using h3
theorem own_close {α : Type} {enc : α → List Value} {z : Nat} (hz : ∀ x, (enc x).length = z) {B : Nat} {W : World} {e : TypeId} {g cap : Nat} {l m : List α} {rest : List Value} (hB : B ≤ g) (hg : W.heap[g]? = some (.cells (encRow enc (l ++ m) ++ rest).toArray e (0, 0))) (h1 : l.length ≤ cap) (h2 : cap ≤ maxLen) (h3 : (encRow enc (l ++ m) ++ rest).length = cap * z) :
    W.ownsRow B e z (.slice (some ⟨g, 0, none⟩) l.length cap) l.length (encRow enc l) := by
  refine ⟨encRow_len hz l, .inr ⟨g, cap, _, rfl, hB, hg, h1, h2, by simpa using h3, ?_⟩⟩
  rw [encRow_append, List.append_assoc]
  rw [← encRow_len hz l]
  simp
theorem zero_row {α : Type} {enc : α → List Value} {z : Nat} (hz : ∀ x, (enc x).length = z) (h0 : 0 < z) (zr : α) (zv : Value) (hv : zv.cells.toList = enc zr) (n : Nat) : (Builtin.zeroCells zv.cells n).toList = encRow enc (List.replicate n zr) := by
  have hs : zv.cells.size = z := by rw [← Array.length_toList, hv, hz]
  apply List.ext_getElem
  · rw [encRow_len hz, List.length_replicate]
    simp [Builtin.zeroCells, hs]
  · intro i h1 h2
    rw [encRow_len hz, List.length_replicate] at h2
    have hk : i / z < n := Nat.div_lt_of_lt_mul (by rw [Nat.mul_comm]; exact h2)
    have hm : i % z < z := Nat.mod_lt _ h0
    have hat := encRow_at hz [] (ys := List.replicate n zr) (k := i / z) (by rw [List.length_replicate]; exact hk) (i % z) _ (List.getElem?_eq_getElem (by rw [hz]; exact hm))
    rw [List.append_nil, show i / z * z + i % z = i from by rw [Nat.mul_comm]; exact Nat.div_add_mod i z] at hat
    have e1 := (List.getElem?_eq_some_iff.1 hat).2
    rw [e1]
    simp only [List.getElem_replicate]
    simp only [Builtin.zeroCells, Array.toList_map, List.getElem_map, Array.getElem_toList, Array.getElem_range, hs]
    rw [getElem!_pos zv.cells (i % z) (by rw [hs]; exact hm)]
    have e2 : zv.cells.toList[i % z]'(by rw [Array.length_toList, hs]; exact hm) = (enc zr)[i % z]'(by rw [hz]; exact hm) := by
      simp only [hv]
    rw [← e2, Array.getElem_toList]
/-- what is cleared -/
theorem run_clear_row {α : Type} {enc : α → List Value} {z : Nat} (hz : ∀ x, (enc x).length = z) (h0 : 0 < z) {t e : TypeId} (ht : Try.prog.underlying t = some (.slice e)) (zr : α) (zv : Value) (hv : zv.cells.toList = enc zr) (hzv : ∀ W, (zeroValue e).run Try.prog W = .ok zv W) (W : World) {g i : Nat} {ys : List α} {rest : List Value} (hg : W.heap[g]? = some (.cells (encRow enc ys ++ rest).toArray e (0, 0))) (hi : i < ys.length)
    (h1 : ∀ v ∈ enc zr, v.oneCell' = true) (ty : TypeId) (c : Nat) :
    (Builtin.clear_ #[t] ty #[.slice (some ⟨g, i * z, none⟩) (ys.length - i) c]).run Try.prog W = .ok (.tuple #[]) (W.setRow g (encRow enc (ys.take i ++ List.replicate (ys.length - i) zr) ++ rest).toArray) := by
  have hlen : i * z + (encRow enc (List.replicate (ys.length - i) zr)).length ≤ (encRow enc ys ++ rest).length := by
    rw [encRow_len hz, List.length_replicate, List.length_append, encRow_len hz, ← Nat.add_mul, show i + (ys.length - i) = ys.length from by omega]
    omega
  have hone : ∀ v ∈ encRow enc (List.replicate (ys.length - i) zr), v.oneCell' = true := fun v hv' => by
    obtain ⟨x, hx, hxv⟩ := List.mem_flatMap.1 hv'
    rw [List.eq_of_mem_replicate hx] at hxv
    exact h1 v hxv
  have hst := run_storeCells_at Try.prog g (i * z) e (encRow enc (List.replicate (ys.length - i) zr)) 0 _ W hg (by simpa using hlen) hone
  rw [← encRow_clear hz rest (Nat.le_of_lt hi) zr]
  have hs : ∀ (l : List Value) (o : Nat) (cs : List Value), l.take o ++ cs ++ l.drop (o + cs.length) = splice l o cs := fun l o cs => by unfold splice; rw [List.append_assoc]
  simp only [Nat.add_zero, hs] at hst
  obtain ⟨m, hm⟩ : ∃ m, ys.length - i = m + 1 := ⟨ys.length - i - 1, by omega⟩
  have hzr := zero_row hz h0 zr zv hv (ys.length - i)
  rw [hm] at hst hzr ⊢
  simp [Builtin.clear_, run_underlying ht, hzv, hzr, hst]
theorem row_src {W : World} {g : Nat} {cur cs : List Value} {t : TypeId} (h : W.heap[g]? = some (.cells cur.toArray t (0, 0))) (o : Nat) (hc : ∀ j u, cs[j]? = some u → cur[o + j]? = some u) : ∀ j u, cs[j]? = some u → W.cell? ((⟨g, o, none⟩ : Addr).add j) = some u := fun j u hj => by
  rw [Addr.add_mid, cell_of_row W g (o + j) _ _ _ h, List.getElem?_toArray]
  exact hc j u hj
theorem grRow_enc (l : List Gr) : grRow l = encRow grCells l := rfl
theorem grCells_len (x : Gr) : (grCells x).length = 4 := rfl
end Go.Proofs.Ytcnaalbpbalgdaa
/- the library's DeleteFunc over grants -/
namespace Go.Proofs.Ytcnaalbpbalgdaa
open Go.RowKit
set_option maxRecDepth 20000
set_option linter.unusedSimpArgs false
set_option linter.unusedVariables false

theorem zeroV_gr (W : World) : (zeroValue 29).run Try.prog W = .ok (.agg (grCells grNil).toArray) W := by kernel_rfl
theorem one_grl (x : Gr) : ∀ u ∈ grCells x, u.oneCell' = true := by
  intro u hu
  simp only [grCells, List.mem_cons, List.not_mem_nil, or_false] at hu
  rcases hu with rfl | rfl | rfl | rfl <;> rfl
/-- a function of a fault that answers the same whatever block g holds -/
def GrFnX (gn : Nat) (lb : Array Value) (p : Gr → Bool) (l : List Gr) (g : Option Nat) (w : World) : Prop :=
  ∀ W x, x ∈ l → w.grownBy W g → Calls Try.prog gn (#[.agg (grCells x).toArray] ++ lb) W fun e w' => e = .returned (.bool (p x)) ∧ Below W.heap.size W w'
set_option maxHeartbeats 8000000 in
theorem delGr_row (gn : Nat) (lb : Array Value) (q : Gr → Bool) (l : List Gr) (g cap : Nat) (rest : List Value) (w : World) (eg : EntersF gn) (hp : GrFnX gn lb q l (some g) w) (hl : l.length ≤ 200000) (hcap : l.length ≤ cap) (hcm : cap ≤ maxLen)
    (hg : w.heap[g]? = some (.cells (encRow grCells l ++ rest).toArray 29 (0, 0))) :
    Calls Try.prog 67 #[.slice (some ⟨g, 0, none⟩) l.length cap, .func (.func gn) #[] lb] w fun e w' => e = .returned (.slice (some ⟨g, 0, none⟩) (l.filter fun x => !q x).length cap) ∧
      (∃ m : List Gr, (l.filter (fun x => !q x) ++ m).length = l.length ∧ w'.heap[g]? = some (.cells (encRow grCells (l.filter (fun x => !q x) ++ m) ++ rest).toArray 29 (0, 0))) ∧ w.grownBy w' (some g) := by
  have hlt0 : g < w.heap.size := (Array.getElem?_eq_some_iff.1 hg).1
  have HRow : Hid (∀ (W : World) (ys : List Gr), W.heap[g]? = some (.cells (encRow grCells ys ++ rest).toArray 29 (0, 0)) → ∀ k (h : k < ys.length), W.rangeAt g (k * 4) (grCells ys[k])) := fun W ys hW k h j u hj => by
    rw [cell_of_row W g (k * 4 + j) _ _ _ hW, List.getElem?_toArray]
    exact encRow_at grCells_len rest h j u hj
  have hIx : Calls Try.prog 55 #[.slice (some ⟨g, 0, none⟩) l.length cap, .func (.func gn) #[] lb] w fun e w' => e = .returned (.int .i64 (idxR q l)) ∧ Below w.heap.size w w' :=
    idxGr_any gn lb q l _ [(g, 0, grRow l)] w eg (fun W x hx hb => hp W x hx (grown_below hb)) ⟨_, cap, rfl, encRow_len grCells_len l, hcap, hcm, fun _ => ⟨g, 0, rfl, List.mem_singleton.2 rfl⟩, fun h => by cases h⟩ (fun r hr => by
      obtain rfl := List.mem_singleton.1 hr
      refine ⟨hlt0, fun j u hj => ?_⟩
      have hj' : (encRow grCells l)[j]? = some u := hj
      show w.cell? ⟨g, 0 + j, none⟩ = some u
      rw [cell_of_row w g (0 + j) _ _ _ hg, List.getElem?_toArray, Nat.zero_add, List.getElem?_append_left (List.getElem?_eq_some_iff.1 hj').1]
      exact hj') hl
  have HP := Lib.hid hp
  have HG0 := Lib.hid hg
  have HC : Hid (l.length ≤ cap ∧ cap ≤ maxLen ∧ l.length ≤ 200000 ∧ g < w.heap.size) := ⟨hcap, hcm, hl, hlt0⟩
  obtain ⟨fs, huf⟩ := under_gr
  have HUF := Lib.hid huf
  clear hp hg hcap hcm hl huf hlt0
  unfold EntersF at eg
  by_cases hr : idxR q l = -1
  · have hall := idxR_neg hr
    rw [hr] at hIx
    have HF : Hid (l.filter (fun x => !q x) = l) := List.filter_eq_self.2 (List.all_eq_true.1 hall)
    clear hr hall
    go_enter Try.func67, Try.ntmps67
    go_wp2_with fail
    refine hIx.mono ?_
    rintro e w2 ⟨rfl, hb⟩
    have HB := Lib.hid hb
    clear hb hIx
    go_wp2_with fail
    go_ret
    refine ⟨by rw [HF.out]; rfl, ⟨[], by rw [HF.out, List.append_nil], ?_⟩, grown_below HB.out⟩
    rw [HF.out, List.append_nil]
    exact (HB.out.block _ HC.out.2.2.2).trans HG0.out
  · obtain ⟨k0, hk0, e0, hall, hx⟩ := idxR_pos hr
    have HK0 := Lib.hid (KeptR.start hk0 hall hx)
    have HK1 := Lib.hid hk0
    rw [e0] at hIx
    clear hr e0 hall hx
    have hk01 : ((k0 : Int) == -1) = false := by rw [beq_eq_false_iff_ne]; omega
    have hk0m : (k0 : Int) < 200001 := by have := HC.out; omega
    clear hk0
    go_enter Try.func67, Try.ntmps67
    go_wp2_with fail
    refine hIx.mono ?_
    rintro e w2 ⟨rfl, hb⟩
    have HB : Hid (w.grownBy w2 (some g) ∧ w2.heap[g]? = some (.cells (encRow grCells l ++ rest).toArray 29 (0, 0))) := ⟨grown_below hb, (hb.block _ HC.out.2.2.2).trans HG0.out⟩
    clear hb hIx
    go_wp2_with fail
    go_loopw [5, 6] (fun si sj wr => ∃ (i j : Nat) (ys : List Gr), si = .int .i64 i ∧ sj = .int .i64 j ∧ j ≤ l.length ∧ KeptR q l j i ys ∧ w.grownBy wr (some g) ∧ wr.heap[g]? = some (.cells (encRow grCells ys ++ rest).toArray 29 (0, 0))) (fun _ sj _ => l.length - (intOf sj).toNat)
    case atStart => exact ⟨k0, k0 + 1, l, rfl, by go_num, HK1.out, HK0.out, HB.out.1, HB.out.2⟩
    case round =>
      clear hk01 hk0m
      obtain ⟨i, j, ys, rfl, rfl, hj, hk, hgb, hgr⟩ := hrel
      have HK := Lib.hid hk
      have HGb := Lib.hid hgb
      have HGr := Lib.hid hgr
      clear hk hgb hgr HB
      by_cases hlt : j < l.length
      · have hji : (j : Int) < (l.length : Int) := by omega
        have hj0 : (0 : Int) ≤ (j : Int) := by omega
        have hjm : (j : Int) < 200000 := by have := HC.out; omega
        have hi0 : (0 : Int) ≤ (i : Int) := by omega
        have hil : (i : Int) < (l.length : Int) := by have := HK.out.lt; omega
        have him : (i : Int) < 200000 := by have := HK.out.lt; omega
        obtain ⟨x, hxe⟩ : ∃ x, l[j] = x := ⟨_, rfl⟩
        have HXe := Lib.hid hxe
        have hylen := HK.out.len
        have hjy : j < ys.length := by omega
        have HMid : Hid (wr.rangeAt g (j * 4) (grCells x)) := by
          have h := HRow.out wr ys HGr.out j hjy
          rw [HK.out.at hlt, hxe] at h
          exact h
        have hlw : g < wr.heap.size := Nat.lt_of_lt_of_le HC.out.2.2.2 HGb.out.size
        have HW1 : Hid (Below wr.heap.size wr ((wr.alloc (.cells (grCells grNil).toArray 29)).setRow wr.heap.size (grCells x).toArray)) := below_setRow ((Below.refl _ _).alloc (Nat.le_refl _) _) (Nat.le_refl _) _
        have HV1 : Hid (((wr.alloc (.cells (grCells grNil).toArray 29)).setRow wr.heap.size (grCells x).toArray).heap[wr.heap.size]? = some (.cells (grCells x).toArray 29 (0, 0))) := setRow_heap _ _ _ _ _ _ (heap_alloc_last wr _)
        have HSz1 : Hid (wr.heap.size < ((wr.alloc (.cells (grCells grNil).toArray 29)).setRow wr.heap.size (grCells x).toArray).heap.size) := (Array.getElem?_eq_some_iff.1 HV1.out).1
        have hcall := HP.out _ x (by rw [← hxe]; exact List.getElem_mem hlt) (grown_then HGb.out HW1.out)
        have HYes := Lib.hid (fun h : q x = false => HK.out.keep hlt (by rw [hxe]; exact h))
        have HNo := Lib.hid (fun h : q x = true => HK.out.skip hlt (by rw [hxe]; exact h))
        have HILt : Hid (i < ys.length) := by show _ < _; have := HK.out.lt; omega
        clear hxe hylen hjy hj
        go_wp2_with (first | ((with_reducible refine wpList_load_at 29 (.tmp 24) g (j * 4) (grCells x) HUF.out ?_ ?_ ?_ ?_ ?_); (exact rfl); (exact HMid.out); (exact rfl); (exact info_gr); simp only [Act.put, List.setIfInBounds_toArray, List.set_cons_zero, List.set_cons_succ]) | ((with_reducible refine wpList_alloc_ob 29 (grCells grNil) ?_ ?_); (exact alloc_gr); simp only [Act.put, List.setIfInBounds_toArray, List.set_cons_zero, List.set_cons_succ]) | ((with_reducible refine wpList_store_ob 29 (.tmp 7) wr.heap.size (grCells x) (grCells grNil) 29 ?_ ?_ ?_ ?_ ?_ ?_ ?_); (exact rfl); (exact rfl); (exact heap_alloc_last wr _); (exact info_gr); (exact rfl); (exact oneCell_gr _); skip) | ((with_reducible refine wpList_load_ob 29 (.tmp 7) wr.heap.size (grCells x) 29 HUF.out ?_ ?_ ?_ ?_ ?_); (exact rfl); (exact HV1.out); (exact rfl); (exact info_gr); simp only [Act.put, List.setIfInBounds_toArray, List.set_cons_zero, List.set_cons_succ]))
        refine hcall.mono ?_
        rintro e w3 ⟨rfl, hb⟩
        have HB3 : Hid (w.grownBy w3 (some g)) := grown_then (grown_then HGb.out HW1.out) hb
        have HG3 : Hid (w3.heap[g]? = some (.cells (encRow grCells ys ++ rest).toArray 29 (0, 0))) := ((hb.block g (Nat.lt_trans hlw HSz1.out)).trans (HW1.out.block g hlw)).trans HGr.out
        have HV3 : Hid (w3.heap[wr.heap.size]? = some (.cells (grCells x).toArray 29 (0, 0))) := (hb.block _ HSz1.out).trans HV1.out
        clear hb hcall HW1 HV1 HSz1 HGb HGr HMid hlw
        generalize wr.heap.size = bx at *
        cases hq : q x
        · have HK2 := Lib.hid (HYes.out hq)
          have HTh : Hid (w3.there g (i * 4) (grCells x).toArray.size) := fun t ht => by
            have ht6 : t < 4 := ht
            refine ⟨?_, frozen_of_row _ _ _ _ _ HG3.out⟩
            have h := HRow.out w3 ys HG3.out i HILt.out t _ (List.getElem?_eq_getElem (by rw [grCells_len]; exact ht6))
            rw [h]; rfl
          have HW4 : Hid (w3.setCells g (i * 4) (grCells x).toArray.toList = w3.setRow g (encRow grCells (ys.set i x) ++ rest).toArray) := by
            show _ = _
            rw [show (grCells x).toArray.toList = grCells x from rfl, setCells_row HG3.out (by
              rw [List.length_append, encRow_len grCells_len, grCells_len]
              have := HILt.out
              have h6 : i * 4 + 4 ≤ ys.length * 4 := by omega
              omega) (one_grl x), encRow_set grCells_len rest HILt.out]
          clear HYes HNo
          go_wp2_with (first | ((with_reducible refine wpList_load_ob 29 (.tmp 7) bx (grCells x) 29 HUF.out ?_ ?_ ?_ ?_ ?_); (exact rfl); (exact HV3.out); (exact rfl); (exact info_gr); simp only [Act.put, List.setIfInBounds_toArray, List.set_cons_zero, List.set_cons_succ]) | ((with_reducible refine wpList_store_mid rfl 29 (.tmp 33) (.tmp 32) rfl g (i * 4) (grCells x).toArray ?_ ?_ ?_ ?_ ?_ ?_); (exact rfl); (exact rfl); (exact HTh.out); (exact info_gr); (exact oneCell_gr _); skip))
          go_roundw
          case rel => exact ⟨i + 1, j + 1, ys.set i x, by go_num, by go_num, by omega, by rw [← HXe.out]; exact (by have h := HK2.out; rw [HXe.out] at h ⊢; exact h), by rw [HW4.out]; exact grown_trans HB3.out (grown_setRow _ _ _), by rw [HW4.out]; exact setRow_heap _ _ _ _ _ _ HG3.out⟩
          case measure => simp [intOf]; omega
        · have HK2 := Lib.hid (HNo.out hq)
          clear HYes HNo
          go_wp2_with fail
          go_roundw
          case rel => exact ⟨i, j + 1, ys, rfl, by go_num, by omega, HK2.out, HB3.out, HG3.out⟩
          case measure => simp [intOf]; omega
      · obtain rfl : j = l.length := by omega
        have hilt : i < l.length := HK.out.lt
        have hic : ¬ (cap = i) := by have := HC.out; omega
        have hil : (i : Int) ≤ (l.length : Int) := by omega
        have hi0 : (0 : Int) ≤ (i : Int) := by omega
        have hcl0 : (i : Int) ≤ (cap : Int) := by have := HC.out; omega
        have hcl := fun ty c => run_clear_row (t := 23) grCells_len (by decide) Try.underlying23 grNil (.agg (grCells grNil).toArray) rfl zeroV_gr wr HGr.out (i := i) (by rw [HK.out.len]; exact hilt) (one_grl _) ty c
        rw [HK.out.len] at hcl
        clear hlt
        go_wp2_with fail
        go_ret
        obtain ⟨h1, h2⟩ := HK.out.done
        refine ⟨by rw [← h2]; rfl, ⟨List.replicate (l.length - i) grNil, ?_, ?_⟩, grown_trans HGb.out (grown_setRow _ _ _)⟩
        · rw [List.length_append, ← h2, List.length_replicate]; omega
        · rw [← h1]; exact setRow_heap _ _ _ _ _ _ HGr.out
set_option maxHeartbeats 4000000 in
theorem delGr_own (gn : Nat) (lb : Array Value) (q : Gr → Bool) (l : List Gr) (v : Value) (B0 : Nat) (w : World) (eg : EntersF gn) (own : w.ownsRow B0 29 4 v l.length (grRow l)) (hp : GrFnX gn lb q l v.ownBlock w) (hl : l.length ≤ 200000) :
    Calls Try.prog 67 #[v, .func (.func gn) #[] lb] w fun e w' => ∃ v', e = .returned v' ∧ w'.ownsRow B0 29 4 v' (l.filter fun x => !q x).length (grRow (l.filter fun x => !q x)) ∧ w.grownBy w' v.ownBlock ∧ v'.ownBlock = v.ownBlock := by
  have own' := own
  rw [grRow_enc] at own'
  rcases own_open grCells_len own' rfl (by decide) with ⟨rfl, rfl⟩ | ⟨g, cap, rest, rfl, hB, hg, h1, h2, h3⟩
  · have hIx := idxGr_any gn lb q [] (.slice none 0 0) [] w eg (fun W x hx => by cases hx) (SlRd.nil 4 []) (RdIn.nil w) (by simp)
    have e0 : idxR q ([] : List Gr) = -1 := idxR_none rfl
    rw [e0] at hIx
    clear own own' hp hl e0
    go_enter Try.func67, Try.ntmps67
    go_wp2_with fail
    refine hIx.mono ?_
    rintro e w2 ⟨rfl, hb⟩
    clear hIx
    have HB := Lib.hid hb
    clear hb
    go_wp2_with fail
    go_ret
    exact ⟨_, rfl, ⟨by simp [grRow], .inl ⟨rfl, by simp⟩⟩, grown_below HB.out, rfl⟩
  · refine (delGr_row gn lb q l g cap rest w eg hp hl h1 h2 hg).mono ?_
    rintro e w2 ⟨rfl, ⟨m, hm1, hm2⟩, hgr⟩
    refine ⟨_, rfl, ?_, hgr, rfl⟩
    rw [grRow_enc]
    refine own_close grCells_len hB hm2 (Nat.le_trans (List.length_filter_le _ _) h1) h2 ?_
    rw [List.length_append, encRow_len grCells_len, hm1]
    rw [List.length_append, encRow_len grCells_len] at h3
    exact h3
end Go.Proofs.Ytcnaalbpbalgdaa
/- the library's copy of grants -/
namespace Go.Proofs.Ytcnaalbpbalgdaa
open Go.RowKit
set_option maxRecDepth 20000
set_option linter.unusedSimpArgs false
set_option linter.unusedVariables false

set_option maxHeartbeats 4000000 in
theorem cloneG_any (l : List Gr) (v : Value) (R : List Rng) (w : World) (hv : SlRd v 4 l.length (grRow l) R) (hR : RdIn w R) (hl : l.length ≤ 200000) :
    Calls Try.prog 43 #[v] w fun e w' => ∃ u, e = .returned u ∧ Below w.heap.size w w' ∧ w'.ownsRow w.heap.size 29 4 u l.length (grRow l) := by
  have HV := Lib.hid hv
  have HR := Lib.hid hR
  have HL := Lib.hid hl
  obtain ⟨a, cap, rfl, h1, h2, h3, h4, h5⟩ := hv
  have HUT : Hid (Try.prog.underlying 23 = some (.slice 29)) := Try.underlying23
  have hq : ∀ W, Sem.run Try.prog (binOp .eql 23 (.slice a l.length cap) (.slice none 0 0)) W = .ok (.bool a.isNone) W := fun W => Lib.run_eql_slice_nil W _ _ a l.length cap 0 0 HUT.out
  clear hR hl
  cases a with
  | none =>
    have hq2 : ∀ W, Sem.run Try.prog (binOp .eql 23 (.slice none l.length cap) (.slice none 0 0)) W = .ok (.bool true) W := hq
    have hc := h5 rfl
    have hn : l.length = 0 := by omega
    have HX : Hid (Below w.heap.size w w ∧ w.ownsRow w.heap.size 29 4 (.slice none 0 0) l.length (grRow l)) := ⟨Below.refl _ _, by rw [hn]; exact ⟨by rw [h1, hn], .inl ⟨rfl, rfl⟩⟩⟩
    clear h1 h2 h3 h4 h5 hq hc
    rw [hn] at hq2
    rw [hn]
    go_enter Try.func43, Try.ntmps43
    go_wp2_with fail
    go_ret
    refine ⟨_, rfl, ?_⟩
    have h := HX.out
    rw [hn] at h
    exact h
  | some a =>
    have h0 := (Hp.start w).put 29 []
    have HS0 : Hid (Hp w [.sl (.slice (some ⟨w.heap.size, 0, none⟩) 0 0) 29 4 0 []] (w.alloc (.cells #[] 29))) :=
      (Hp.start w).addown ((Below.refl _ _).alloc (Nat.le_refl _) _) ⟨by simp, .inr ⟨w.heap.size, 0, #[], rfl, Nat.le_refl _, heap_alloc_last w _, Nat.le_refl _, Nat.zero_le _, by simp, by simp⟩⟩
    clear h0 h1 h2 h3 h4 h5
    go_enter Try.func43, Try.ntmps43
    go_wp2_with (first | ((with_reducible refine wpList_append_sl (HS0.out) (.tmp 5) (.tmp 6) 23 0 (v := .slice (some ⟨w.heap.size, 0, none⟩) 0 0) (n := 0) (xs := []) ?_ (xv := .slice (some a) l.length cap) (m := l.length) (ys := grRow l) (R := R) ?_ ?_ HUT.out elem_gr ?_ ?_ ?_ ?_ ?_); (exact rfl); (exact HV.out); (exact HR.out.below HS0.out.old); (exact rfl); (exact rfl); (exact (one_grs _)); (exact (by have := HL.out; omega))))
    intro v1 w1 hs
    have hs2 : Hp w [.sl v1 29 4 (0 + l.length) ([] ++ grRow l)] w1 := hs
    clear hs HS0
    rw [Nat.zero_add, List.nil_append] at hs2
    have HA := Lib.hid hs2
    clear hs2
    go_wp2_with fail
    go_ret
    exact ⟨_, rfl, HA.out.old, HA.out.own 0 rfl⟩
end Go.Proofs.Ytcnaalbpbalgdaa
/- the library's Insert of one grant -/
namespace Go.Proofs.Ytcnaalbpbalgdaa
open Go.RowKit
set_option maxRecDepth 20000
set_option linter.unusedSimpArgs false
set_option linter.unusedVariables false

def insG (l : List Gr) (i : Nat) (t : Gr) : List Gr := l.take i ++ t :: l.drop i
theorem insG_len (l : List Gr) (i : Nat) (t : Gr) : (insG l i t).length = l.length + 1 := by
  unfold insG
  rw [List.length_append, List.length_cons, List.length_take, List.length_drop]
  omega
/-- how an insertion ends -/
def InsPost (B0 : Nat) (w : World) (v : Value) (m : List Gr) (e : Ending) (w' : World) : Prop :=
  ∃ u, e = .returned u ∧ w'.ownsRow B0 29 4 u m.length (grRow m) ∧ w.grownBy w' v.ownBlock ∧ (u.ownBlock = v.ownBlock ∨ u.ownBlock = some w.heap.size)
theorem obj_src {W : World} {vb : Nat} {t : Gr} (h : W.heap[vb]? = some (.cells (grCells t).toArray 29 (0, 0))) : ∀ j u, (grCells t)[j]? = some u → W.cell? ((⟨vb, 0, none⟩ : Addr).add j) = some u := row_src h 0 (fun j u hj => by rw [Nat.zero_add]; exact hj)
theorem encRow1 (t : Gr) : encRow grCells [t] = grCells t := by unfold encRow; simp
set_option maxHeartbeats 8000000 in
theorem insert_end (l : List Gr) (t : Gr) (v : Value) (B0 vb : Nat) (w : World) (own : w.ownsRow B0 29 4 v l.length (grRow l)) (hvb : w.heap[vb]? = some (.cells (grCells t).toArray 29 (0, 0))) (hB0 : B0 ≤ w.heap.size) (hl : l.length ≤ 200000) :
    Calls Try.prog 42 #[v, .int .i64 l.length, .slice (some ⟨vb, 0, none⟩) 1 1] w (InsPost B0 w v (l ++ [t])) := by
  obtain ⟨inf, zv, hi, hz, hsize, hby, hzs⟩ := elem_gr.is
  obtain ⟨v', w', hr, h2, h3, h4, h5⟩ := run_append_own_at (P := Try.prog) w B0 23 23 29 inf zv 4 32 Try.underlying23 hi hz hsize hby hzs (by decide) v l.length (grRow l) own ⟨vb, 0, none⟩ 1 1 (grCells t) rfl (obj_src hvb) (one_gr t) (by unfold maxLen; omega) (by omega) hB0
  have HE : Hid (InsPost B0 w v (l ++ [t]) (.returned v') w') := ⟨v', rfl, by
    rw [grRow_append, grRow_one, List.length_append]
    exact h2, h3, h5⟩
  have HL := Lib.hid hl
  rcases own.2 with ⟨rfl, h0⟩ | ⟨g, cap, cur, rfl, hB, hg, h1, hc2, hc3, hc4⟩
  · rw [h0]
    clear own hvb hB0 hl h2 h3 h4 h5 h0 hi hz hsize hby hzs
    go_enter Try.func42, Try.ntmps42
    go_wp2_with (at_builtin; refine Lib.wpList_append_run _ rfl _ _ _ _ rfl _ _ rfl rfl _ _ hr ?_)
    go_ret
    exact HE.out
  · have hcap : l.length ≤ cap := h1
    have hn0 : (0 : Int) ≤ (l.length : Int) := by omega
    clear own hvb hB0 hl h2 h3 h4 h5 hi hz hsize hby hzs hB hg h1 hc2 hc3 hc4
    by_cases hcn : cap = l.length
    · subst hcn
      go_enter Try.func42, Try.ntmps42
      go_wp2_with (at_builtin; refine Lib.wpList_append_run _ rfl _ _ _ _ rfl _ _ rfl rfl _ _ hr ?_)
      go_ret
      exact HE.out
    · go_enter Try.func42, Try.ntmps42
      go_wp2_with (at_builtin; refine Lib.wpList_append_run _ rfl _ _ _ _ rfl _ _ rfl rfl _ _ hr ?_)
      go_ret
      exact HE.out
theorem run_copy_rowz {P : Program} (w : World) (dT sT ty elem : TypeId) (z n g o dLen dCap : Nat) (a : Addr) (sLen sCap : Nat) (cur : Array Value) (t : TypeId) (cs : List Value)
    (hu : P.underlying dT = some (.slice elem)) (hs : (P.info? elem).map (·.size) = some z)
    (hg : w.heap[g]? = some (.cells cur t (0, 0))) (hn : n = Nat.min sLen dLen) (hc : cs.length = n * z)
    (hsrc : ∀ j v, cs[j]? = some v → w.cell? (a.add j) = some v) (hfit : o + cs.length ≤ cur.size) (h1 : ∀ v ∈ cs, v.oneCell' = true) :
    (Builtin.copy_ #[dT, sT] ty #[.slice (some ⟨g, o, none⟩) dLen dCap, .slice (some a) sLen sCap]).run P w =
      .ok (goInt n) (w.setRow g (cur.toList.take o ++ cs ++ cur.toList.drop (o + cs.length)).toArray) := by
  have hl := run_loadCells_list (P := P) w a cs hsrc
  have hst := run_storeCells_at P g o t cs 0 cur w hg (by simpa using hfit) h1
  cases hq : P.info? elem with
  | none => simp [hq] at hs
  | some i =>
    have hi : i.size = z := by simpa [hq] using hs
    simp [Builtin.copy_, run_underlying hu, Builtin.lenOf, Builtin.firstCells, sizeOf, typeInfo, hq, hi, ← hn, ← hc, hl, hst]
theorem step_copy_row {P : Program} {ops : Array Oper} {o : Oper} {a : Act} {w : World} {K : Act → World → Prop} {Q : Exit → Act → World → Prop} {E : Prop} (hgd : o.guard = none) (d s : Operand) (dT sT : TypeId)
    (ho : o.op = .call { callee := .builtin .copy, args := #[d, s], argTypes := #[dT, sT] }) (elem : TypeId) (hu : P.underlying dT = some (.slice elem)) (z n : Nat) (hsz : (P.info? elem).map (·.size) = some z)
    (g off dLen dCap : Nat) (ad : Addr) (sLen sCap : Nat) (hd : a.eval d = .slice (some ⟨g, off, none⟩) dLen dCap) (hs : a.eval s = .slice (some ad) sLen sCap)
    (cur : List Value) (t : TypeId) (hg : w.heap[g]? = some (.cells cur.toArray t (0, 0))) (cs : List Value) (hn : n = Nat.min sLen dLen) (hc : cs.length = n * z)
    (hsrc : ∀ j v, cs[j]? = some v → w.cell? (ad.add j) = some v) (hfit : off + cs.length ≤ cur.length) (h1 : ∀ v ∈ cs, v.oneCell' = true)
    (h : ∀ w', Hid (w' = w.setRow g (splice cur off cs).toArray) → K (a.put o.dst (goInt n)) w') :
    if Region.wanted o (yielded ops a.tmps) = true then Oper.wp P o a w K Q else E := by
  have hw : Region.wanted o (yielded ops a.tmps) = true := by simp [Region.wanted, hgd]
  rw [if_pos hw]
  have hrun := run_copy_rowz (P := P) w dT sT o.type elem z n g off dLen dCap ad sLen sCap cur.toArray t cs hu hsz hg hn hc hsrc (by simpa using hfit) h1
  unfold Oper.wp
  simp [execOp, ho, resolve, invoke, builtin, hd, hs, hrun, Result.andThen]
  exact h _ (show _ = _ by unfold splice; simp)
theorem wpList_copy_row {P : Program} {w : World} {ops : Array Oper} {rest : List Oper} {o : Oper} {a : Act} {Q : Exit → Act → World → Prop} (hgd : o.guard = none) (d s : Operand) (dT sT : TypeId)
    (ho : o.op = .call { callee := .builtin .copy, args := #[d, s], argTypes := #[dT, sT] }) (elem : TypeId) (hu : P.underlying dT = some (.slice elem)) (z n : Nat) (hsz : (P.info? elem).map (·.size) = some z)
    (g off dLen dCap : Nat) (ad : Addr) (sLen sCap : Nat) (hd : a.eval d = .slice (some ⟨g, off, none⟩) dLen dCap) (hs : a.eval s = .slice (some ad) sLen sCap)
    (cur : List Value) (t : TypeId) (hg : w.heap[g]? = some (.cells cur.toArray t (0, 0))) (cs : List Value) (hn : n = Nat.min sLen dLen) (hc : cs.length = n * z)
    (hsrc : ∀ j v, cs[j]? = some v → w.cell? (ad.add j) = some v) (hfit : off + cs.length ≤ cur.length) (h1 : ∀ v ∈ cs, v.oneCell' = true)
    (h : ∀ w', Hid (w' = w.setRow g (splice cur off cs).toArray) → wpList P ops Q rest (a.put o.dst (goInt n)) w') : wpList P ops Q (o :: rest) a w := by
  have hrun := run_copy_rowz (P := P) w dT sT o.type elem z n g off dLen dCap ad sLen sCap cur.toArray t cs hu hsz hg hn hc hsrc (by simpa using hfit) h1
  refine wpList_plain hgd fun _ hK => ?_
  unfold Oper.wp
  simp [execOp, ho, resolve, invoke, builtin, hd, hs, hrun, Result.andThen]
  exact hK _ _ (h _ (show _ = _ by unfold splice; simp))
theorem splice_mid {α : Type} {A X R C : List α} (h : X.length = C.length) {o : Nat} (ho : A.length = o) : splice (A ++ (X ++ R)) o C = A ++ (C ++ R) := by
  subst ho
  unfold splice
  rw [List.take_append_of_le_length (Nat.le_refl _), List.take_of_length_le (Nat.le_refl _), List.drop_append, List.drop_of_length_le (by omega), List.nil_append, Nat.add_sub_cancel_left, ← h, List.drop_append, List.drop_of_length_le (Nat.le_refl _), List.nil_append, Nat.sub_self, List.drop_zero]
theorem ins_rows (l : List Gr) (i : Nat) (t : Gr) (X rest : List Value) (hX : X.length = 4) (hil : i < l.length) :
    splice (splice (encRow grCells l ++ (X ++ rest)) ((i + 1) * 4) (encRow grCells (l.drop i))) (i * 4) (encRow grCells [t]) = encRow grCells (insG l i t) ++ rest := by
  have lA : (encRow grCells (l.take i)).length = i * 4 := by rw [encRow_len grCells_len, List.length_take, Nat.min_eq_left (by omega)]
  have e0 : l = l.take i ++ (l[i] :: l.drop (i + 1)) := by rw [List.getElem_cons_drop, List.take_append_drop]
  have e1 : encRow grCells l ++ (X ++ rest) = (encRow grCells (l.take i) ++ grCells l[i]) ++ ((encRow grCells (l.drop (i + 1)) ++ X) ++ rest) := by
    conv => lhs; rw [e0]
    rw [encRow_append]
    show encRow grCells (l.take i) ++ (grCells l[i] ++ encRow grCells (l.drop (i + 1))) ++ (X ++ rest) = _
    simp
  have lD : (encRow grCells (l.drop i)).length = (l.length - i) * 4 := by rw [encRow_len grCells_len, List.length_drop]
  rw [e1, splice_mid (by rw [List.length_append, encRow_len grCells_len, List.length_drop, lD, hX]; omega) (by rw [List.length_append, lA, grCells_len]; omega), List.append_assoc, splice_mid (by rw [encRow_len grCells_len, grCells_len]; rfl) lA]
  unfold insG
  rw [encRow_append]
  show _ = (encRow grCells (l.take i) ++ (grCells t ++ encRow grCells (l.drop i))) ++ rest
  rw [encRow1]
  simp
theorem sizeOf_gr (W : World) : (Go.sizeOf 29).run Try.prog W = .ok 4 W := by kernel_rfl
theorem overlaps_no (t : Gr) (vb g o c1 c2 : Nat) (cur : Array Value) (W : World) (hvb : W.heap[vb]? = some (.cells (grCells t).toArray 29 (0, 0))) (hg : W.heap[g]? = some (.cells cur 29 (0, 0))) (hne : vb ≠ g) (h0 : cur.size ≠ 0) :
    (callFunc 57 #[.slice (some ⟨vb, 0, none⟩) 1 1, .slice (some ⟨g, o, none⟩) c1 c2]).run Try.prog W = .ok (.value (.bool false)) W := by
  rw [run_callFunc_extern Try.func57 (by kernel_rfl) (by kernel_rfl) (by kernel_rfl) (e := Extern.SlicesOverlaps.overlaps #[23, 23] #[4]) (by kernel_rfl),
    Lib.run_overlaps_apart W 23 4 29 Try.underlying23 4 sizeOf_gr ⟨vb, 0, none⟩ ⟨g, o, none⟩ 1 1 c1 c2 hne 29 29 4 cur.size (by unfold World.shape?; rw [hvb]; rfl) (by unfold World.shape?; rw [hg]) h0 (frozen_of_row _ _ _ _ _ hvb) (frozen_of_row _ _ _ _ _ hvb)]
  rfl
set_option maxHeartbeats 8000000 in
theorem insert_room (l : List Gr) (t : Gr) (i g cap vb : Nat) (X rest : List Value) (hX : X.length = 4) (B0 : Nat) (w : World) (hil : i < l.length) (hB : B0 ≤ g) (hg : w.heap[g]? = some (.cells (encRow grCells l ++ (X ++ rest)).toArray 29 (0, 0))) (hlen : (encRow grCells l ++ (X ++ rest)).length = cap * 4) (hcm : cap ≤ maxLen)
    (hvb : w.heap[vb]? = some (.cells (grCells t).toArray 29 (0, 0))) (hne : vb ≠ g) (hl : l.length ≤ 200000) :
    Calls Try.prog 42 #[.slice (some ⟨g, 0, none⟩) l.length cap, .int .i64 i, .slice (some ⟨vb, 0, none⟩) 1 1] w (InsPost B0 w (.slice (some ⟨g, 0, none⟩) l.length cap) (insG l i t)) := by
  have hll := encRow_len grCells_len l
  have hroom : l.length + 1 ≤ cap := by
    rw [List.length_append, List.length_append, hll, hX] at hlen; omega
  have hov : ∀ c1 c2, (callFunc 57 #[.slice (some ⟨vb, 0, none⟩) 1 1, .slice (some ⟨g, (i + 1) * 4, none⟩) c1 c2]).run Try.prog w = .ok (.value (.bool false)) w := fun c1 c2 => overlaps_no _ vb g _ c1 c2 _ w hvb hg hne (by rw [List.size_toArray, hlen]; omega)
  have HIns := Lib.hid (ins_rows l i t X rest hX hil)
  have HLen := Lib.hid hlen
  have HG : Hid (w.drew.heap[g]? = some (.cells (encRow grCells l ++ (X ++ rest)).toArray 29 (0, 0))) := hg
  have lD : (encRow grCells (l.drop i)).length = (l.length - i) * 4 := by rw [encRow_len grCells_len, List.length_drop]
  have H0 : Hid (l.length - i = Nat.min (l.length + 1 - i) (l.length - i)) := by show _ = _; simp only [Nat.min_def]; split <;> omega
  have H1 : Hid ((encRow grCells (l.drop i)).length = (l.length - i) * 4) := lD
  have H2 : Hid (∀ j v, (encRow grCells (l.drop i))[j]? = some v → w.drew.cell? ((⟨g, i * 4, none⟩ : Addr).add j) = some v) := row_src (W := w.drew) hg (i * 4) (fun j v hj => by
    have e2 : encRow grCells l = encRow grCells (l.take i) ++ encRow grCells (l.drop i) := by rw [← encRow_append, List.take_append_drop]
    have lA : (encRow grCells (l.take i)).length = i * 4 := by rw [encRow_len grCells_len, List.length_take, Nat.min_eq_left (by omega)]
    rw [e2, List.append_assoc, List.getElem?_append_right (by omega), lA, Nat.add_sub_cancel_left, List.getElem?_append_left (List.getElem?_eq_some_iff.1 hj).1]
    exact hj)
  have H3 : Hid ((i + 1) * 4 + (encRow grCells (l.drop i)).length ≤ (encRow grCells l ++ (X ++ rest)).length) := by show _ ≤ _; rw [lD, hlen]; omega
  have H4 : Hid (∀ v ∈ encRow grCells (l.drop i), v.oneCell' = true) := one_grs _
  have HV : Hid (w.heap[vb]? = some (.cells (grCells t).toArray 29 (0, 0)) ∧ vb < w.heap.size ∧ vb ≠ g) := ⟨hvb, (Array.getElem?_eq_some_iff.1 hvb).1, hne⟩
  have HN : Hid (i < l.length ∧ l.length ≤ 200000 ∧ l.length + 1 ≤ cap ∧ cap ≤ maxLen ∧ B0 ≤ g) := ⟨hil, hl, hroom, hcm, hB⟩
  have hz2 : ((i : Int) == (l.length : Int)) = false := by rw [beq_eq_false_iff_ne]; omega
  have hi0 : (0 : Int) ≤ (i : Int) := by omega
  have hin : (i : Int) ≤ (l.length : Int) := by omega
  have hc1 : ¬ (cap : Int) < (l.length : Int) + 1 := by omega
  have hc2 : (l.length : Int) + 1 ≤ (cap : Int) := by omega
  have hc3 : ¬ cap = i := by omega
  have hc4 : ¬ cap = i + 1 := by omega
  have hin1 : (i : Int) + 1 ≤ (l.length : Int) + 1 := by omega
  have hi01 : (0 : Int) ≤ (i : Int) + 1 := by omega
  have hin2 : (i : Int) ≤ (l.length : Int) + 1 := by omega
  have hw1 : IntKind.i64.wrap ((l.length : Int) + 1) = ((l.length + 1 : Nat) : Int) := by rw [IntKind.wrap_i64]; omega
  have hw2 : IntKind.i64.wrap ((i : Int) + 1) = ((i + 1 : Nat) : Int) := by rw [IntKind.wrap_i64]; omega
  clear hll hroom hil hlen hcm hvb hne hl hB hg lD
  go_enter Try.func42, Try.ntmps42
  go_wp2_with (simp only [hov])
  clear hov
  go_region_law (refine step_copy_row rfl (.tmp 73) (.tmp 76) 23 23 rfl 29 Try.underlying23 4 (l.length - i) info_gr g ((i + 1) * 4) (l.length - i) (cap - (i + 1)) ⟨g, i * 4, none⟩ (l.length + 1 - i) (cap - i) (by simp [Act.eval, Act.put]) (by simp [Act.eval, Act.put]) (encRow grCells l ++ (X ++ rest)) 29 HG.out (encRow grCells (l.drop i)) H0.out H1.out H2.out H3.out H4.out ?_; intro w4 hw4)
  have HG4 : Hid (w4.heap[g]? = some (.cells (splice (encRow grCells l ++ (X ++ rest)) ((i + 1) * 4) (encRow grCells (l.drop i))).toArray 29 (0, 0))) := by
    show _ = _
    rw [hw4.out]
    exact setRow_heap _ _ _ _ _ _ HG.out
  have HB4 : Hid (w.grownBy w4 (some g)) := by show World.grownBy _ _ _; rw [hw4.out]; exact @grown_trans w w.drew _ _ ⟨rfl, rfl, rfl, Nat.le_refl _, fun _ _ _ => rfl⟩ (grown_setRow w.drew g _)
  have HV4 : Hid (w4.heap[vb]? = some (.cells (grCells t).toArray 29 (0, 0))) := (HB4.out.block vb HV.out.2.1 (fun e => HV.out.2.2 (Option.some.inj e))).trans HV.out.1
  have hl4 : (splice (encRow grCells l ++ (X ++ rest)) ((i + 1) * 4) (encRow grCells (l.drop i))).length = cap * 4 := by rw [length_splice _ _ _ H3.out, HLen.out]
  have H5 : Hid (i * 4 + (grCells t).length ≤ (splice (encRow grCells l ++ (X ++ rest)) ((i + 1) * 4) (encRow grCells (l.drop i))).length) := by
    show _ ≤ _
    rw [hl4, grCells_len]
    have := HN.out
    omega
  have H6 : Hid (1 = Nat.min 1 (l.length + 1 - i)) := by
    show (1 : Nat) = _
    have := HN.out
    simp only [Nat.min_def]
    split <;> omega
  clear hw4 hl4 H0 H1 H2 H3 H4 HG
  rw [encRow1] at HIns
  go_wp2_with (first | ((with_reducible refine wpList_copy_row rfl (.tmp 80) (.tmp 81) 23 23 rfl 29 Try.underlying23 4 1 info_gr g (i * 4) (l.length + 1 - i) (cap - i) ⟨vb, 0, none⟩ 1 1 ?_ ?_ (splice (encRow grCells l ++ (X ++ rest)) ((i + 1) * 4) (encRow grCells (l.drop i))) 29 HG4.out (grCells t) H6.out ?_ ?_ H5.out ?_ ?_); (exact rfl); (exact rfl); (exact rfl); (exact obj_src HV4.out); (exact one_gr t)))
  intro w5 hw5
  have HG5 : Hid (w5.heap[g]? = some (.cells (encRow grCells (insG l i t) ++ rest).toArray 29 (0, 0))) := by
    show _ = _
    rw [hw5.out, HIns.out]
    exact setRow_heap _ _ _ _ _ _ HG4.out
  have HB5 : Hid (w.grownBy w5 (some g)) := by rw [hw5.out]; exact grown_trans HB4.out (grown_setRow w4 g _)
  have HL5 : Hid ((encRow grCells (insG l i t ++ []) ++ rest).length = cap * 4) := by
    show _ = _
    have := HLen.out
    rw [List.length_append, encRow_len grCells_len, List.length_append, hX] at this
    rw [List.append_nil, List.length_append, encRow_len grCells_len, insG_len]
    omega
  clear hw5
  go_wp2_with fail
  go_ret
  have hlen5 := insG_len l i t
  refine ⟨_, rfl, ?_, HB5.out, .inl rfl⟩
  rw [hlen5, ← hlen5, grRow_enc]
  have h := own_close (m := []) grCells_len HN.out.2.2.2.2 (by rw [List.append_nil]; exact HG5.out) (by rw [hlen5]; exact HN.out.2.2.1) HN.out.2.2.2.1 HL5.out
  rw [hlen5] at h ⊢
  exact h
end Go.Proofs.Ytcnaalbpbalgdaa
/- the library's Insert of one grant, where there is no room -/
namespace Go.Proofs.Ytcnaalbpbalgdaa
open Go.RowKit
set_option maxRecDepth 20000
set_option linter.unusedSimpArgs false
set_option linter.unusedVariables false

theorem zero_lenG (n : Nat) : (Builtin.zeroCells (grCells grNil).toArray n).toList.length = n * 4 := by simp [Builtin.zeroCells, grCells]
theorem info_grz : (Try.prog.info? 29).map (fun i => (i.zero, i.size, i.bytes)) = some (some (.agg (grCells grNil).toArray), 4, 32) := by kernel_rfl
theorem ins_rows2 (l : List Gr) (i : Nat) (t : Gr) (Z1 Z2 : List Value) (hil : i < l.length) (hZ : Z1.length = (l.length + 1 - i) * 4) :
    splice (splice (encRow grCells (l.take i) ++ (Z1 ++ Z2)) (i * 4) (grCells t)) ((i + 1) * 4) (encRow grCells (l.drop i)) = encRow grCells (insG l i t) ++ Z2 := by
  have lA : (encRow grCells (l.take i)).length = i * 4 := by rw [encRow_len grCells_len, List.length_take, Nat.min_eq_left (by omega)]
  have lD : (encRow grCells (l.drop i)).length = (l.length - i) * 4 := by rw [encRow_len grCells_len, List.length_drop]
  obtain ⟨z0, Z3, rfl, hz0⟩ : ∃ z0 Z3, Z1 = z0 ++ Z3 ∧ z0.length = 4 := ⟨Z1.take 4, Z1.drop 4, (List.take_append_drop 4 Z1).symm, by rw [List.length_take, hZ]; omega⟩
  rw [List.length_append, hz0] at hZ
  have e1 : encRow grCells (l.take i) ++ ((z0 ++ Z3) ++ Z2) = encRow grCells (l.take i) ++ (z0 ++ (Z3 ++ Z2)) := by simp
  rw [e1, splice_mid (by rw [hz0, grCells_len]) lA]
  have e2 : encRow grCells (l.take i) ++ (grCells t ++ (Z3 ++ Z2)) = (encRow grCells (l.take i) ++ grCells t) ++ (Z3 ++ Z2) := by simp
  rw [e2, splice_mid (by rw [lD]; omega) (by rw [List.length_append, lA, grCells_len]; omega)]
  unfold insG
  rw [encRow_append]
  show (encRow grCells (l.take i) ++ grCells t) ++ (encRow grCells (l.drop i) ++ Z2) = (encRow grCells (l.take i) ++ (grCells t ++ encRow grCells (l.drop i))) ++ Z2
  simp
set_option maxHeartbeats 8000000 in
theorem insert_grow (l : List Gr) (t : Gr) (i g cap vb : Nat) (rest : List Value) (B0 : Nat) (w : World) (hil : i < l.length) (hB0 : B0 ≤ w.heap.size) (hg : w.heap[g]? = some (.cells (encRow grCells l ++ rest).toArray 29 (0, 0))) (hcap : cap = l.length)
    (hvb : w.heap[vb]? = some (.cells (grCells t).toArray 29 (0, 0))) (hl : l.length ≤ 200000) :
    Calls Try.prog 42 #[.slice (some ⟨g, 0, none⟩) l.length cap, .int .i64 i, .slice (some ⟨vb, 0, none⟩) 1 1] w (InsPost B0 w (.slice (some ⟨g, 0, none⟩) l.length cap) (insG l i t)) := by
  subst hcap
  obtain ⟨i0, hi0, hz0, hzs, hzb⟩ := info_of info_grz
  have lA : (encRow grCells (l.take i)).length = i * 4 := by rw [encRow_len grCells_len, List.length_take, Nat.min_eq_left (by omega)]
  have lD : (encRow grCells (l.drop i)).length = (l.length - i) * 4 := by rw [encRow_len grCells_len, List.length_drop]
  have e2 : encRow grCells l = encRow grCells (l.take i) ++ encRow grCells (l.drop i) := by rw [← encRow_append, List.take_append_drop]
  have hold : (Builtin.firstCells i0.size i (.slice (some ⟨g, 0, none⟩) i l.length)).run Try.prog w.drew = .ok (encRow grCells (l.take i)).toArray w.drew := by
    rw [hzs]
    exact run_firstCells_some w.drew 4 i ⟨g, 0, none⟩ i l.length (encRow grCells (l.take i)) (by rw [lA]) (row_src (W := w.drew) hg 0 (fun j v hj => by
      rw [Nat.zero_add, e2, List.append_assoc, List.getElem?_append_left (List.getElem?_eq_some_iff.1 hj).1]
      exact hj))
  obtain ⟨G, hG⟩ : ∃ G, G = grownCap w (l.length + 1) l.length 29 := ⟨_, rfl⟩
  have hGn : l.length + 1 ≤ G := by rw [hG]; exact grownCap_ge w _ _ _
  have hGm : G ≤ maxLen := by rw [hG]; exact grownCap_le_maxLen w _ _ _ (by unfold maxLen; omega)
  obtain ⟨Z1, hZ1⟩ : ∃ Z1, Z1 = (Builtin.zeroCells (grCells grNil).toArray (l.length + 1 - i)).toList := ⟨_, rfl⟩
  obtain ⟨Z2, hZ2⟩ : ∃ Z2, Z2 = (Builtin.zeroCells (grCells grNil).toArray (G - (l.length + 1))).toList := ⟨_, rfl⟩
  have hl1 : Z1.length = (l.length + 1 - i) * 4 := by rw [hZ1, zero_lenG]
  have hl2 : Z2.length = (G - (l.length + 1)) * 4 := by rw [hZ2, zero_lenG]
  have hr : (Builtin.append_ #[23, 3] 23 #[.slice (some ⟨g, 0, none⟩) i l.length, .int .i64 ((l.length : Int) + 1 - (i : Int))]).run Try.prog w =
      .ok (.slice (some ⟨w.heap.size, 0, none⟩) (l.length + 1) G) (w.drew.alloc (.cells (encRow grCells (l.take i) ++ (Z1 ++ Z2)).toArray 29)) := by
    have h := Lib.run_append_grow_zeros (P := Try.prog) w 23 3 23 29 i0 _ .i64 .i64 Try.underlying23 Try.underlying3 hi0 hz0 (some ⟨g, 0, none⟩) i l.length (encRow grCells (l.take i)) hold (l.length + 1 - i) (by omega) (by omega) (by omega) (by omega) (by rw [hzb]; omega) (by
      rw [hzb, show i + (l.length + 1 - i) = l.length + 1 from by omega]
      exact growslice_fits (by omega) (by omega))
    rw [show i + (l.length + 1 - i) = l.length + 1 from by omega, ← hG] at h
    rw [show (l.length : Int) + 1 - (i : Int) = ((l.length + 1 - i : Nat) : Int) from by omega, h]
    congr 3
    rw [hZ1, hZ2]
    apply Array.toList_inj.1
    simp [Value.cells]
  have hgw := (Array.getElem?_eq_some_iff.1 hg).1
  have hvw := (Array.getElem?_eq_some_iff.1 hvb).1
  have HIns := Lib.hid (ins_rows2 l i t Z1 Z2 hil hl1)
  obtain ⟨w1, hw1⟩ : ∃ w1, w1 = w.drew.alloc (.cells (encRow grCells (l.take i) ++ (Z1 ++ Z2)).toArray 29) := ⟨_, rfl⟩
  rw [← hw1] at hr
  have HG1 : Hid (w1.heap[w.heap.size]? = some (.cells (encRow grCells (l.take i) ++ (Z1 ++ Z2)).toArray 29 (0, 0))) := by
    show _ = _
    rw [hw1]
    exact heap_alloc_last w.drew _
  have HB1 : Hid (w.grownBy w1 none ∧ w1.heap.size = w.heap.size + 1) := by
    rw [hw1]
    exact ⟨⟨rfl, rfl, rfl, by simp, fun k hk _ => by
      show (w.heap.push _)[k]? = _
      rw [Array.getElem?_push, if_neg (by omega)]⟩, by simp⟩
  have HV1 : Hid (w1.heap[vb]? = some (.cells (grCells t).toArray 29 (0, 0))) := (HB1.out.1.block vb hvw (by simp)).trans hvb
  have HGg : Hid (w1.heap[g]? = some (.cells (encRow grCells l ++ rest).toArray 29 (0, 0)) ∧ g ≠ w.heap.size) := ⟨(HB1.out.1.block g hgw (by simp)).trans hg, by omega⟩
  have hlR : (encRow grCells (l.take i) ++ (Z1 ++ Z2)).length = G * 4 := by
    rw [List.length_append, List.length_append, lA, hl1, hl2]; omega
  have H5 : Hid (i * 4 + (grCells t).length ≤ (encRow grCells (l.take i) ++ (Z1 ++ Z2)).length) := by
    show i * 4 + 4 ≤ _
    rw [hlR]; omega
  have H6 : Hid (1 = Nat.min 1 (l.length + 1 - i)) := by
    show (1 : Nat) = _
    simp only [Nat.min_def]
    split <;> omega
  have hlS : (splice (encRow grCells (l.take i) ++ (Z1 ++ Z2)) (i * 4) (grCells t)).length = G * 4 := by rw [length_splice _ _ _ H5.out, hlR]
  have H0 : Hid (l.length - i = Nat.min (l.length - i) (l.length - i)) := by show _ = _; simp only [Nat.min_def]; split <;> omega
  have H1 : Hid ((encRow grCells (l.drop i)).length = (l.length - i) * 4) := lD
  have H3 : Hid ((i + 1) * 4 + (encRow grCells (l.drop i)).length ≤ (splice (encRow grCells (l.take i) ++ (Z1 ++ Z2)) (i * 4) (grCells t)).length) := by
    show _ ≤ _
    rw [hlS, lD]; omega
  have H4 : Hid (∀ v ∈ encRow grCells (l.drop i), v.oneCell' = true) := one_grs _
  have HSrc : Hid (∀ W : World, W.heap[g]? = some (.cells (encRow grCells l ++ rest).toArray 29 (0, 0)) → ∀ j v, (encRow grCells (l.drop i))[j]? = some v → W.cell? ((⟨g, i * 4, none⟩ : Addr).add j) = some v) := fun W hW => row_src hW (i * 4) (fun j v hj => by
    rw [e2, List.append_assoc, List.getElem?_append_right (by omega), lA, Nat.add_sub_cancel_left, List.getElem?_append_left (List.getElem?_eq_some_iff.1 hj).1]
    exact hj)
  have HL5 : Hid ((encRow grCells (insG l i t ++ []) ++ Z2).length = G * 4) := by
    show _ = _
    rw [List.append_nil, List.length_append, encRow_len grCells_len, insG_len, hl2]
    omega
  have HN : Hid (i < l.length ∧ l.length ≤ 200000 ∧ l.length + 1 ≤ G ∧ G ≤ maxLen ∧ B0 ≤ w.heap.size) := ⟨hil, hl, hGn, hGm, hB0⟩
  have hz2 : ((i : Int) == (l.length : Int)) = false := by rw [beq_eq_false_iff_ne]; omega
  have hi00 : (0 : Int) ≤ (i : Int) := by omega
  have hi01 : (0 : Int) ≤ (i : Int) + 1 := by omega
  have hin : (i : Int) ≤ (l.length : Int) := by omega
  have hGi : (G : Int) ≤ 9223372036854775807 := by unfold maxLen at hGm; omega
  have hc3 : ¬ l.length = i := by omega
  have hc4 : ¬ G = i + 1 := by omega
  have hc5 : ¬ G = i := by omega
  have hin1 : (i : Int) + 1 ≤ (l.length : Int) + 1 := by omega
  have hin2 : (i : Int) ≤ (l.length : Int) + 1 := by omega
  have hlt1 : (l.length : Int) < (l.length : Int) + 1 := by omega
  have hw1' : IntKind.i64.wrap ((l.length : Int) + 1) = (l.length : Int) + 1 := by rw [IntKind.wrap_i64]; omega
  have hw2 : IntKind.i64.wrap ((i : Int) + 1) = (i : Int) + 1 := by rw [IntKind.wrap_i64]; omega
  have hw3 : IntKind.i64.wrap ((l.length : Int) + 1 - (i : Int)) = (l.length : Int) + 1 - (i : Int) := by rw [IntKind.wrap_i64]; omega
  clear hil hB0 hg hvb hl lA lD e2 hold hG hGn hGm hZ1 hZ2 hl1 hl2 hlR hlS hgw hvw hw1 hi0 hz0 hzs hzb
  go_enter Try.func42, Try.ntmps42
  go_wp2_with (first
    | (at_builtin; refine Lib.wpList_append_run _ rfl (.tmp 34) (.tmp 39) _ _ rfl _ _ rfl rfl _ _ hr ?_)
    | ((with_reducible refine wpList_copy_row rfl (.tmp 43) (.tmp 44) 23 23 rfl 29 Try.underlying23 4 1 info_gr w.heap.size (i * 4) (l.length + 1 - i) (G - i) ⟨vb, 0, none⟩ 1 1 ?_ ?_ (encRow grCells (l.take i) ++ (Z1 ++ Z2)) 29 HG1.out (grCells t) H6.out ?_ ?_ H5.out ?_ ?_); (exact rfl); (exact rfl); (exact rfl); (exact obj_src HV1.out); (exact one_gr t)))
  intro w4 hw4
  have HG4 : Hid (w4.drew.heap[w.heap.size]? = some (.cells (splice (encRow grCells (l.take i) ++ (Z1 ++ Z2)) (i * 4) (grCells t)).toArray 29 (0, 0))) := by
    show w4.heap[w.heap.size]? = _
    rw [hw4.out]
    exact setRow_heap _ _ _ _ _ _ HG1.out
  have HS4 : Hid (∀ j v, (encRow grCells (l.drop i))[j]? = some v → w4.drew.cell? ((⟨g, i * 4, none⟩ : Addr).add j) = some v) := HSrc.out w4.drew (by
    show w4.heap[g]? = _
    rw [hw4.out, setRow_other _ _ _ _ HGg.out.2]
    exact HGg.out.1)
  have HB4 : Hid (w.grownBy w4 none) := by
    show World.grownBy _ _ _
    rw [hw4.out]
    exact ⟨HB1.out.1.os, HB1.out.1.tape, HB1.out.1.output, by simp [World.setRow]; have := HB1.out.2; omega, fun k hk _ => by
      rw [setRow_other _ _ _ _ (by omega)]
      exact HB1.out.1.block k hk (by simp)⟩
  clear hw4 HSrc HGg HV1 HG1 hr
  go_wp2_with fail
  go_region_law (refine step_copy_row rfl (.tmp 50) (.tmp 53) 23 23 rfl 29 Try.underlying23 4 (l.length - i) info_gr w.heap.size ((i + 1) * 4) (l.length - i) (G - (i + 1)) ⟨g, i * 4, none⟩ (l.length - i) (l.length - i) (by simp [Act.eval, Act.put]) (by simp [Act.eval, Act.put]) (splice (encRow grCells (l.take i) ++ (Z1 ++ Z2)) (i * 4) (grCells t)) 29 HG4.out (encRow grCells (l.drop i)) H0.out H1.out HS4.out H3.out H4.out ?_; intro w5 hw5)
  have HG5 : Hid (w5.heap[w.heap.size]? = some (.cells (encRow grCells (insG l i t) ++ Z2).toArray 29 (0, 0))) := by
    show _ = _
    rw [hw5.out, HIns.out]
    exact setRow_heap _ _ _ _ _ _ HG4.out
  have HB5 : Hid (w.grownBy w5 (some g)) := by
    show World.grownBy _ _ _
    rw [hw5.out]
    exact ⟨HB4.out.os, HB4.out.tape, HB4.out.output, by simp [World.setRow]; exact HB4.out.size, fun k hk _ => by
      rw [setRow_other _ _ _ _ (by omega)]
      exact HB4.out.block k hk (by simp)⟩
  clear hw5
  go_wp2_with fail
  go_ret
  have hlen5 := insG_len l i t
  refine ⟨_, rfl, ?_, HB5.out, .inr rfl⟩
  rw [grRow_enc]
  have h := own_close (m := []) grCells_len HN.out.2.2.2.2 (by rw [List.append_nil]; exact HG5.out) (by rw [hlen5]; exact HN.out.2.2.1) HN.out.2.2.2.1 HL5.out
  rw [hlen5] at h ⊢
  exact h
/-- an insertion into a slice of the walk's own -/
theorem insert_own (l : List Gr) (t : Gr) (i : Nat) (v : Value) (B0 vb : Nat) (w : World) (hi : i ≤ l.length) (own : w.ownsRow B0 29 4 v l.length (grRow l)) (hvb : w.heap[vb]? = some (.cells (grCells t).toArray 29 (0, 0))) (hne : v.ownBlock ≠ some vb) (hB0 : B0 ≤ w.heap.size) (hl : l.length ≤ 200000) :
    Calls Try.prog 42 #[v, .int .i64 i, .slice (some ⟨vb, 0, none⟩) 1 1] w (InsPost B0 w v (insG l i t)) := by
  rcases Nat.lt_or_eq_of_le hi with h | h
  · rw [grRow_enc] at own
    rcases own_open grCells_len own rfl (by decide) with ⟨_, rfl⟩ | ⟨g, cap, rest, rfl, hB, hg, h1, h2, h3⟩
    · simp at h
    · by_cases hc : cap = l.length
      · exact insert_grow l t i g cap vb rest B0 w h hB0 hg hc hvb hl
      · have h3' := h3
        rw [List.length_append, encRow_len grCells_len] at h3'
        obtain ⟨X, r2, rfl, hX⟩ : ∃ X r2, rest = X ++ r2 ∧ X.length = 4 := ⟨rest.take 4, rest.drop 4, (List.take_append_drop 4 rest).symm, by rw [List.length_take]; omega⟩
        exact insert_room l t i g cap vb X r2 hX B0 w h hB hg h3 h2 hvb (fun e => hne (by rw [e]; rfl)) hl
  · subst h
    have := insert_end l t v B0 vb w own hvb hB0 hl
    have e : insG l l.length t = l ++ [t] := by unfold insG; rw [List.take_length, List.drop_length]
    rw [e]
    exact this
end Go.Proofs.Ytcnaalbpbalgdaa
