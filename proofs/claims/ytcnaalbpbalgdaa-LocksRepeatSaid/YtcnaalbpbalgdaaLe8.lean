/- the law LocksRepeat: for every input the call returns true -/
import Derived.Test.YtcnaalbpbalgdaaLe1
import Derived.Test.YtcnaalbpbalgdaaLe7
import Derived.Deep.CutBlock
import Derived.Laws.CopyRow
namespace Go.Proofs.Ytcnaalbpbalgdaa
open Go.RowKit
open Go.Act renaming put → z0
open List renaming setIfInBounds_toArray → z1, set_cons_zero → z2, set_cons_succ → z3
set_option maxRecDepth 20000
set_option linter.unusedSimpArgs false
set_option linter.unusedVariables false

theorem dag_3 {α0 α1 α2 : Type} {I G : α0 → α1 → α2 → Prop} {P : Prop} (main : (∀ x0 x1 x2, I x0 x1 x2 → G x0 x1 x2) → P) (node : ∀ x0 x1 x2, I x0 x1 x2 → G x0 x1 x2) : P := main node
theorem dag_4 {α0 α1 α2 α3 : Type} {I G : α0 → α1 → α2 → α3 → Prop} {P : Prop} (main : (∀ x0 x1 x2 x3, I x0 x1 x2 x3 → G x0 x1 x2 x3) → P) (node : ∀ x0 x1 x2 x3, I x0 x1 x2 x3 → G x0 x1 x2 x3) : P := main node
theorem dag_7 {α0 α1 α2 α3 α4 α5 α6 : Type} {I G : α0 → α1 → α2 → α3 → α4 → α5 → α6 → Prop} {P : Prop} (main : (∀ x0 x1 x2 x3 x4 x5 x6, I x0 x1 x2 x3 x4 x5 x6 → G x0 x1 x2 x3 x4 x5 x6) → P) (node : ∀ x0 x1 x2 x3 x4 x5 x6, I x0 x1 x2 x3 x4 x5 x6 → G x0 x1 x2 x3 x4 x5 x6) : P := main node
theorem dag_8 {α0 α1 α2 α3 α4 α5 α6 α7 : Type} {I G : α0 → α1 → α2 → α3 → α4 → α5 → α6 → α7 → Prop} {P : Prop} (main : (∀ x0 x1 x2 x3 x4 x5 x6 x7, I x0 x1 x2 x3 x4 x5 x6 x7 → G x0 x1 x2 x3 x4 x5 x6 x7) → P) (node : ∀ x0 x1 x2 x3 x4 x5 x6 x7, I x0 x1 x2 x3 x4 x5 x6 x7 → G x0 x1 x2 x3 x4 x5 x6 x7) : P := main node
theorem dag_9 {α0 α1 α2 α3 α4 α5 α6 α7 α8 : Type} {I G : α0 → α1 → α2 → α3 → α4 → α5 → α6 → α7 → α8 → Prop} {P : Prop} (main : (∀ x0 x1 x2 x3 x4 x5 x6 x7 x8, I x0 x1 x2 x3 x4 x5 x6 x7 x8 → G x0 x1 x2 x3 x4 x5 x6 x7 x8) → P) (node : ∀ x0 x1 x2 x3 x4 x5 x6 x7 x8, I x0 x1 x2 x3 x4 x5 x6 x7 x8 → G x0 x1 x2 x3 x4 x5 x6 x7 x8) : P := main node
theorem dag_12 {α0 α1 α2 α3 α4 α5 α6 α7 α8 α9 α10 α11 : Type} {I G : α0 → α1 → α2 → α3 → α4 → α5 → α6 → α7 → α8 → α9 → α10 → α11 → Prop} {P : Prop} (main : (∀ x0 x1 x2 x3 x4 x5 x6 x7 x8 x9 x10 x11, I x0 x1 x2 x3 x4 x5 x6 x7 x8 x9 x10 x11 → G x0 x1 x2 x3 x4 x5 x6 x7 x8 x9 x10 x11) → P) (node : ∀ x0 x1 x2 x3 x4 x5 x6 x7 x8 x9 x10 x11, I x0 x1 x2 x3 x4 x5 x6 x7 x8 x9 x10 x11 → G x0 x1 x2 x3 x4 x5 x6 x7 x8 x9 x10 x11) : P := main node
theorem dag_13 {α0 α1 α2 α3 α4 α5 α6 α7 α8 α9 α10 α11 α12 : Type} {I G : α0 → α1 → α2 → α3 → α4 → α5 → α6 → α7 → α8 → α9 → α10 → α11 → α12 → Prop} {P : Prop} (main : (∀ x0 x1 x2 x3 x4 x5 x6 x7 x8 x9 x10 x11 x12, I x0 x1 x2 x3 x4 x5 x6 x7 x8 x9 x10 x11 x12 → G x0 x1 x2 x3 x4 x5 x6 x7 x8 x9 x10 x11 x12) → P) (node : ∀ x0 x1 x2 x3 x4 x5 x6 x7 x8 x9 x10 x11 x12, I x0 x1 x2 x3 x4 x5 x6 x7 x8 x9 x10 x11 x12 → G x0 x1 x2 x3 x4 x5 x6 x7 x8 x9 x10 x11 x12) : P := main node
theorem dag_14 {α0 α1 α2 α3 α4 α5 α6 α7 α8 α9 α10 α11 α12 α13 : Type} {I G : α0 → α1 → α2 → α3 → α4 → α5 → α6 → α7 → α8 → α9 → α10 → α11 → α12 → α13 → Prop} {P : Prop} (main : (∀ x0 x1 x2 x3 x4 x5 x6 x7 x8 x9 x10 x11 x12 x13, I x0 x1 x2 x3 x4 x5 x6 x7 x8 x9 x10 x11 x12 x13 → G x0 x1 x2 x3 x4 x5 x6 x7 x8 x9 x10 x11 x12 x13) → P) (node : ∀ x0 x1 x2 x3 x4 x5 x6 x7 x8 x9 x10 x11 x12 x13, I x0 x1 x2 x3 x4 x5 x6 x7 x8 x9 x10 x11 x12 x13 → G x0 x1 x2 x3 x4 x5 x6 x7 x8 x9 x10 x11 x12 x13) : P := main node
theorem dag_17 {α0 α1 α2 α3 α4 α5 α6 α7 α8 α9 α10 α11 α12 α13 α14 α15 α16 : Type} {I G : α0 → α1 → α2 → α3 → α4 → α5 → α6 → α7 → α8 → α9 → α10 → α11 → α12 → α13 → α14 → α15 → α16 → Prop} {P : Prop} (main : (∀ x0 x1 x2 x3 x4 x5 x6 x7 x8 x9 x10 x11 x12 x13 x14 x15 x16, I x0 x1 x2 x3 x4 x5 x6 x7 x8 x9 x10 x11 x12 x13 x14 x15 x16 → G x0 x1 x2 x3 x4 x5 x6 x7 x8 x9 x10 x11 x12 x13 x14 x15 x16) → P) (node : ∀ x0 x1 x2 x3 x4 x5 x6 x7 x8 x9 x10 x11 x12 x13 x14 x15 x16, I x0 x1 x2 x3 x4 x5 x6 x7 x8 x9 x10 x11 x12 x13 x14 x15 x16 → G x0 x1 x2 x3 x4 x5 x6 x7 x8 x9 x10 x11 x12 x13 x14 x15 x16) : P := main node
theorem dag_18 {α0 α1 α2 α3 α4 α5 α6 α7 α8 α9 α10 α11 α12 α13 α14 α15 α16 α17 : Type} {I G : α0 → α1 → α2 → α3 → α4 → α5 → α6 → α7 → α8 → α9 → α10 → α11 → α12 → α13 → α14 → α15 → α16 → α17 → Prop} {P : Prop} (main : (∀ x0 x1 x2 x3 x4 x5 x6 x7 x8 x9 x10 x11 x12 x13 x14 x15 x16 x17, I x0 x1 x2 x3 x4 x5 x6 x7 x8 x9 x10 x11 x12 x13 x14 x15 x16 x17 → G x0 x1 x2 x3 x4 x5 x6 x7 x8 x9 x10 x11 x12 x13 x14 x15 x16 x17) → P) (node : ∀ x0 x1 x2 x3 x4 x5 x6 x7 x8 x9 x10 x11 x12 x13 x14 x15 x16 x17, I x0 x1 x2 x3 x4 x5 x6 x7 x8 x9 x10 x11 x12 x13 x14 x15 x16 x17 → G x0 x1 x2 x3 x4 x5 x6 x7 x8 x9 x10 x11 x12 x13 x14 x15 x16 x17) : P := main node
theorem dag_19 {α0 α1 α2 α3 α4 α5 α6 α7 α8 α9 α10 α11 α12 α13 α14 α15 α16 α17 α18 : Type} {I G : α0 → α1 → α2 → α3 → α4 → α5 → α6 → α7 → α8 → α9 → α10 → α11 → α12 → α13 → α14 → α15 → α16 → α17 → α18 → Prop} {P : Prop} (main : (∀ x0 x1 x2 x3 x4 x5 x6 x7 x8 x9 x10 x11 x12 x13 x14 x15 x16 x17 x18, I x0 x1 x2 x3 x4 x5 x6 x7 x8 x9 x10 x11 x12 x13 x14 x15 x16 x17 x18 → G x0 x1 x2 x3 x4 x5 x6 x7 x8 x9 x10 x11 x12 x13 x14 x15 x16 x17 x18) → P) (node : ∀ x0 x1 x2 x3 x4 x5 x6 x7 x8 x9 x10 x11 x12 x13 x14 x15 x16 x17 x18, I x0 x1 x2 x3 x4 x5 x6 x7 x8 x9 x10 x11 x12 x13 x14 x15 x16 x17 x18 → G x0 x1 x2 x3 x4 x5 x6 x7 x8 x9 x10 x11 x12 x13 x14 x15 x16 x17 x18) : P := main node
theorem repeat_facts {t : Tb} {g : Gr} (h : TbOk t) (hr : (requestR t g).2.2 = 0) :
  ∃ (u x y z : Tb), requestR t g = (u, (requestR t g).2.1, 0) ∧ TbOk u ∧ requestR u g = (u, (requestR t g).2.1, 0) ∧ ((requestR t g).2.1 = true → requestR u ⟨g.tx, g.page, g.slot, 1⟩ = (u, true, 0)) ∧
   releaseR u g.tx = x ∧ cancelR u g.tx = y ∧ dropR u g.tx g.page g.slot = z ∧ TbOk x ∧ TbOk y ∧ TbOk z ∧ releaseR x g.tx = x ∧ cancelR y g.tx = y ∧ cancelR x g.tx = x ∧ modeT x g.tx g.page g.slot = 0 := by
 have hu := (request_ok h hr).1
 have hx := release_ok hu g.tx
 have hy := cancel_ok hu g.tx
 have hz := drop_ok hu g.tx g.page g.slot
 have nx := release_none hu g.tx
 refine ⟨(requestR t g).1, _, _, _, ?_, hu, request_again h hr, fun hh => weak_again h hr hh, rfl, rfl, rfl, hx.1.ok, hy.1.ok, hz.1.ok, release_id hx.1 nx.1 nx.2, cancel_id hy.1 (cancel_none hu g.tx), cancel_id hx.1 nx.2, modeT_none nx.1⟩
 exact Prod.ext rfl (Prod.ext rfl hr)
abbrev qLwRp8_0 : Oper := { dst := some 80, op := Op.load 25 (Operand.tmp 6), type := 25, pos := "more.go:33", after := #[], guard := none }
abbrev qLwRp8_1 : Oper := { dst := some 81, op := Op.fieldAddr 29 (Operand.tmp 5) 0, type := 0, pos := "more.go:33", after := #[], guard := none }
abbrev qLwRp8_2 : Oper := { dst := some 82, op := Op.load 3 (Operand.tmp 81), type := 3, pos := "more.go:33", after := #[{ on := 1, ground := Ground.data }], guard := none }
abbrev qLwRp8_3 : Oper := { dst := some 84, op := Op.load 25 (Operand.tmp 6), type := 25, pos := "more.go:33", after := #[], guard := none }
abbrev qLwRp8_4 : Oper := { dst := some 85, op := Op.fieldAddr 29 (Operand.tmp 5) 0, type := 0, pos := "more.go:33", after := #[], guard := none }
abbrev qLwRp8_5 : Oper := { dst := some 86, op := Op.load 3 (Operand.tmp 85), type := 3, pos := "more.go:33", after := #[{ on := 5, ground := Ground.data }], guard := none }
abbrev qLwRp8_6 : Oper := { dst := some 88, op := Op.load 25 (Operand.tmp 6), type := 25, pos := "more.go:33", after := #[], guard := none }
abbrev qLwRp8_7 : Oper := { dst := some 89, op := Op.fieldAddr 29 (Operand.tmp 5) 0, type := 0, pos := "more.go:33", after := #[], guard := none }
abbrev qLwRp8_8 : Oper := { dst := some 90, op := Op.load 3 (Operand.tmp 89), type := 3, pos := "more.go:33", after := #[{ on := 9, ground := Ground.data }], guard := none }
abbrev qLwRp8_9 : Oper := { dst := some 91, op := Op.fieldAddr 29 (Operand.tmp 5) 1, type := 0, pos := "more.go:33", after := #[], guard := none }
abbrev qLwRp8_10 : Oper := { dst := some 92, op := Op.load 27 (Operand.tmp 91), type := 27, pos := "more.go:33", after := #[{ on := 11, ground := Ground.data }], guard := none }
abbrev qLwRp8_11 : Oper := { dst := some 83, op := Op.call { callee := Callee.value (Operand.func 28), args := #[Operand.tmp 80, Operand.tmp 82], argTypes := #[25, 3] }, type := 25, pos := "more.go:33", after := #[{ on := 0, ground := Ground.data }, { on := 2, ground := Ground.data }], guard := none }
abbrev qLwRp8_12 : Oper := { dst := some 16, op := Op.alloc 25, type := 0, pos := "more.go:33", after := #[], guard := none }
abbrev qLwRp8_13 : Oper := { dst := some 17, op := Op.alloc 25, type := 0, pos := "more.go:33", after := #[], guard := none }
abbrev qLwRp8_14 : Oper := { dst := some 18, op := Op.alloc 25, type := 0, pos := "more.go:33", after := #[], guard := none }
abbrev qLwRp8_15 : Oper := { dst := some 87, op := Op.call { callee := Callee.value (Operand.func 26), args := #[Operand.tmp 84, Operand.tmp 86], argTypes := #[25, 3] }, type := 25, pos := "more.go:33", after := #[{ on := 4, ground := Ground.data }, { on := 6, ground := Ground.data }, { on := 3, ground := Ground.chain }], guard := none }
abbrev qLwRp8_16 : Oper := { dst := some 93, op := Op.call { callee := Callee.value (Operand.func 22), args := #[Operand.tmp 88, Operand.tmp 90, Operand.tmp 92], argTypes := #[25, 3, 27] }, type := 25, pos := "more.go:33", after := #[{ on := 8, ground := Ground.data }, { on := 10, ground := Ground.data }, { on := 12, ground := Ground.data }, { on := 7, ground := Ground.chain }], guard := none }
abbrev qLwRp8_17 : Oper := { dst := none, op := Op.store 25 (Operand.tmp 16) (Operand.tmp 83), type := 0, pos := "more.go:33", after := #[{ on := 14, ground := Ground.data }, { on := 3, ground := Ground.data }, { on := 13, ground := Ground.chain }, { on := 0, ground := Ground.phase }, { on := 1, ground := Ground.phase }, { on := 2, ground := Ground.phase }, { on := 3, ground := Ground.phase }, { on := 4, ground := Ground.textOnly Departure.lateStores }, { on := 5, ground := Ground.textOnly Departure.lateStores }, { on := 6, ground := Ground.textOnly Departure.lateStores }, { on := 7, ground := Ground.textOnly Departure.lateStoresUnsure }, { on := 8, ground := Ground.textOnly Departure.lateStores }, { on := 9, ground := Ground.textOnly Departure.lateStores }, { on := 10, ground := Ground.textOnly Departure.lateStores }, { on := 11, ground := Ground.textOnly Departure.lateStores }, { on := 12, ground := Ground.textOnly Departure.lateStores }, { on := 13, ground := Ground.textOnly Departure.lateStoresUnsure }, { on := 14, ground := Ground.phase }, { on := 15, ground := Ground.phase }, { on := 16, ground := Ground.phase }], guard := none }
abbrev qLwRp8_18 : Oper := { dst := none, op := Op.store 25 (Operand.tmp 17) (Operand.tmp 87), type := 0, pos := "more.go:33", after := #[{ on := 15, ground := Ground.data }, { on := 7, ground := Ground.data }, { on := 17, ground := Ground.chain }, { on := 0, ground := Ground.phase }, { on := 1, ground := Ground.phase }, { on := 2, ground := Ground.phase }, { on := 3, ground := Ground.phase }, { on := 4, ground := Ground.phase }, { on := 5, ground := Ground.phase }, { on := 6, ground := Ground.phase }, { on := 7, ground := Ground.phase }, { on := 8, ground := Ground.textOnly Departure.lateStores }, { on := 9, ground := Ground.textOnly Departure.lateStores }, { on := 10, ground := Ground.textOnly Departure.lateStores }, { on := 11, ground := Ground.textOnly Departure.lateStores }, { on := 12, ground := Ground.textOnly Departure.lateStores }, { on := 13, ground := Ground.textOnly Departure.lateStoresUnsure }, { on := 14, ground := Ground.phase }, { on := 15, ground := Ground.phase }, { on := 16, ground := Ground.phase }, { on := 17, ground := Ground.phase }], guard := none }
abbrev qLwRp8_19 : Oper := { dst := none, op := Op.store 25 (Operand.tmp 18) (Operand.tmp 93), type := 0, pos := "more.go:33", after := #[{ on := 16, ground := Ground.data }, { on := 13, ground := Ground.data }, { on := 18, ground := Ground.chain }, { on := 0, ground := Ground.phase }, { on := 1, ground := Ground.phase }, { on := 2, ground := Ground.phase }, { on := 3, ground := Ground.phase }, { on := 4, ground := Ground.phase }, { on := 5, ground := Ground.phase }, { on := 6, ground := Ground.phase }, { on := 7, ground := Ground.phase }, { on := 8, ground := Ground.phase }, { on := 9, ground := Ground.phase }, { on := 10, ground := Ground.phase }, { on := 11, ground := Ground.phase }, { on := 12, ground := Ground.phase }, { on := 13, ground := Ground.phase }, { on := 14, ground := Ground.phase }, { on := 15, ground := Ground.phase }, { on := 16, ground := Ground.phase }, { on := 17, ground := Ground.phase }, { on := 18, ground := Ground.phase }], guard := none }
abbrev qLwRp8_20 : Oper := { dst := some 94, op := Op.load 25 (Operand.tmp 16), type := 25, pos := "more.go:34", after := #[], guard := none }
abbrev qLwRp8_21 : Oper := { dst := some 95, op := Op.fieldAddr 29 (Operand.tmp 5) 0, type := 0, pos := "more.go:34", after := #[], guard := none }
abbrev qLwRp8_22 : Oper := { dst := some 96, op := Op.load 3 (Operand.tmp 95), type := 3, pos := "more.go:34", after := #[{ on := 1, ground := Ground.data }], guard := none }
abbrev qLwRp8_23 : Oper := { dst := some 98, op := Op.load 25 (Operand.tmp 16), type := 25, pos := "more.go:34", after := #[], guard := none }
abbrev qLwRp8_24 : Oper := { dst := some 97, op := Op.call { callee := Callee.value (Operand.func 28), args := #[Operand.tmp 94, Operand.tmp 96], argTypes := #[25, 3] }, type := 25, pos := "more.go:34", after := #[{ on := 0, ground := Ground.data }, { on := 2, ground := Ground.data }], guard := none }
abbrev qLwRp8_25 : Oper := { dst := some 99, op := Op.call { callee := Callee.value (Operand.func 19), args := #[Operand.tmp 97, Operand.tmp 98], argTypes := #[25, 25] }, type := 4, pos := "more.go:34", after := #[{ on := 3, ground := Ground.data }, { on := 4, ground := Ground.data }, { on := 3, ground := Ground.chain }], guard := none }
abbrev qLwRp8_26 : Oper := { dst := some 100, op := Op.move (Operand.tmp 99), type := 4, pos := "more.go:34", after := #[{ on := 5, ground := Ground.data }, { on := 5, ground := Ground.chain }], guard := none }
abbrev qLwRp8_27 : Oper := { dst := some 101, op := Op.load 25 (Operand.tmp 17), type := 25, pos := "more.go:34", after := #[{ on := 6, ground := Ground.guard }], guard := some (6, true) }
abbrev qLwRp8_28 : Oper := { dst := some 102, op := Op.fieldAddr 29 (Operand.tmp 5) 0, type := 0, pos := "more.go:34", after := #[{ on := 6, ground := Ground.guard }], guard := some (6, true) }
abbrev qLwRp8_29 : Oper := { dst := some 103, op := Op.load 3 (Operand.tmp 102), type := 3, pos := "more.go:34", after := #[{ on := 8, ground := Ground.data }, { on := 6, ground := Ground.guard }], guard := some (6, true) }
abbrev qLwRp8_30 : Oper := { dst := some 105, op := Op.load 25 (Operand.tmp 17), type := 25, pos := "more.go:34", after := #[{ on := 6, ground := Ground.guard }], guard := some (6, true) }
abbrev qLwRp8_31 : Oper := { dst := some 104, op := Op.call { callee := Callee.value (Operand.func 26), args := #[Operand.tmp 101, Operand.tmp 103], argTypes := #[25, 3] }, type := 25, pos := "more.go:34", after := #[{ on := 7, ground := Ground.data }, { on := 9, ground := Ground.data }, { on := 6, ground := Ground.chain }, { on := 6, ground := Ground.guard }], guard := some (6, true) }
abbrev qLwRp8_32 : Oper := { dst := some 106, op := Op.call { callee := Callee.value (Operand.func 19), args := #[Operand.tmp 104, Operand.tmp 105], argTypes := #[25, 25] }, type := 4, pos := "more.go:34", after := #[{ on := 10, ground := Ground.data }, { on := 11, ground := Ground.data }, { on := 10, ground := Ground.chain }, { on := 6, ground := Ground.guard }], guard := some (6, true) }
abbrev qLwRp8_33 : Oper := { dst := some 107, op := Op.pick (Operand.tmp 100) (Operand.tmp 106) (Operand.const (Value.bool false)), type := 4, pos := "more.go:34", after := #[{ on := 6, ground := Ground.data }, { on := 12, ground := Ground.data }], guard := none }
abbrev qLwRp8_34 : Oper := { dst := some 108, op := Op.move (Operand.tmp 107), type := 4, pos := "more.go:34", after := #[{ on := 13, ground := Ground.data }, { on := 12, ground := Ground.chain }], guard := none }
abbrev qLwRp8_35 : Oper := { dst := some 109, op := Op.load 25 (Operand.tmp 16), type := 25, pos := "more.go:34", after := #[{ on := 14, ground := Ground.guard }], guard := some (14, true) }
abbrev qLwRp8_36 : Oper := { dst := some 110, op := Op.fieldAddr 29 (Operand.tmp 5) 0, type := 0, pos := "more.go:34", after := #[{ on := 14, ground := Ground.guard }], guard := some (14, true) }
abbrev qLwRp8_37 : Oper := { dst := some 111, op := Op.load 3 (Operand.tmp 110), type := 3, pos := "more.go:34", after := #[{ on := 16, ground := Ground.data }, { on := 14, ground := Ground.guard }], guard := some (14, true) }
abbrev qLwRp8_38 : Oper := { dst := some 113, op := Op.load 25 (Operand.tmp 16), type := 25, pos := "more.go:34", after := #[{ on := 14, ground := Ground.guard }], guard := some (14, true) }
abbrev qLwRp8_39 : Oper := { dst := some 112, op := Op.call { callee := Callee.value (Operand.func 26), args := #[Operand.tmp 109, Operand.tmp 111], argTypes := #[25, 3] }, type := 25, pos := "more.go:34", after := #[{ on := 15, ground := Ground.data }, { on := 17, ground := Ground.data }, { on := 14, ground := Ground.chain }, { on := 14, ground := Ground.guard }], guard := some (14, true) }
abbrev qLwRp8_40 : Oper := { dst := some 114, op := Op.call { callee := Callee.value (Operand.func 19), args := #[Operand.tmp 112, Operand.tmp 113], argTypes := #[25, 25] }, type := 4, pos := "more.go:34", after := #[{ on := 18, ground := Ground.data }, { on := 19, ground := Ground.data }, { on := 18, ground := Ground.chain }, { on := 14, ground := Ground.guard }], guard := some (14, true) }
abbrev qLwRp8_41 : Oper := { dst := some 115, op := Op.pick (Operand.tmp 108) (Operand.tmp 114) (Operand.const (Value.bool false)), type := 4, pos := "more.go:34", after := #[{ on := 14, ground := Ground.data }, { on := 20, ground := Ground.data }], guard := none }
abbrev qLwRp8_42 : Oper := { dst := some 116, op := Op.move (Operand.tmp 115), type := 4, pos := "more.go:34", after := #[{ on := 21, ground := Ground.data }, { on := 20, ground := Ground.chain }], guard := none }
abbrev qLwRp8_43 : Oper := { dst := some 117, op := Op.load 25 (Operand.tmp 16), type := 25, pos := "more.go:34", after := #[{ on := 22, ground := Ground.guard }], guard := some (22, true) }
abbrev qLwRp8_44 : Oper := { dst := some 118, op := Op.fieldAddr 29 (Operand.tmp 5) 0, type := 0, pos := "more.go:34", after := #[{ on := 22, ground := Ground.guard }], guard := some (22, true) }
abbrev qLwRp8_45 : Oper := { dst := some 119, op := Op.load 3 (Operand.tmp 118), type := 3, pos := "more.go:34", after := #[{ on := 24, ground := Ground.data }, { on := 22, ground := Ground.guard }], guard := some (22, true) }
abbrev qLwRp8_46 : Oper := { dst := some 120, op := Op.fieldAddr 29 (Operand.tmp 5) 1, type := 0, pos := "more.go:34", after := #[{ on := 22, ground := Ground.guard }], guard := some (22, true) }
abbrev qLwRp8_47 : Oper := { dst := some 121, op := Op.load 27 (Operand.tmp 120), type := 27, pos := "more.go:34", after := #[{ on := 26, ground := Ground.data }, { on := 22, ground := Ground.guard }], guard := some (22, true) }
abbrev qLwRp8_48 : Oper := { dst := some 122, op := Op.call { callee := Callee.value (Operand.func 20), args := #[Operand.tmp 117, Operand.tmp 119, Operand.tmp 121], argTypes := #[25, 3, 27] }, type := 3, pos := "more.go:34", after := #[{ on := 23, ground := Ground.data }, { on := 25, ground := Ground.data }, { on := 27, ground := Ground.data }, { on := 22, ground := Ground.chain }, { on := 22, ground := Ground.guard }], guard := some (22, true) }
abbrev qLwRp8_49 : Oper := { dst := some 123, op := Op.binOp BinOp.eql 3 (Operand.tmp 122) (Operand.const (Value.int IntKind.i64 0)) 3, type := 4, pos := "more.go:34", after := #[{ on := 28, ground := Ground.data }, { on := 22, ground := Ground.guard }], guard := some (22, true) }
abbrev qLwRp8_50 : Oper := { dst := some 124, op := Op.pick (Operand.tmp 116) (Operand.tmp 123) (Operand.const (Value.bool false)), type := 4, pos := "more.go:34", after := #[{ on := 22, ground := Ground.data }, { on := 29, ground := Ground.data }], guard := none }
abbrev qLwRp8_51 : Oper := { dst := some 125, op := Op.move (Operand.tmp 124), type := 4, pos := "more.go:34", after := #[{ on := 30, ground := Ground.data }, { on := 28, ground := Ground.chain }], guard := none }
abbrev qLwRp8_52 : Oper := { dst := some 126, op := Op.move (Operand.tmp 7), type := 4, pos := "more.go:34", after := #[{ on := 31, ground := Ground.guard }], guard := some (31, true) }
abbrev qLwRp8_53 : Oper := { dst := some 127, op := Op.unOp UnOp.not 4 (Operand.tmp 126), type := 4, pos := "more.go:34", after := #[{ on := 32, ground := Ground.data }, { on := 31, ground := Ground.guard }], guard := some (31, true) }
abbrev qLwRp8_54 : Oper := { dst := some 128, op := Op.move (Operand.tmp 127), type := 4, pos := "more.go:34", after := #[{ on := 33, ground := Ground.data }, { on := 31, ground := Ground.chain }, { on := 31, ground := Ground.guard }], guard := some (31, true) }
abbrev qLwRp8_55 : Oper := { dst := some 129, op := Op.load 25 (Operand.tmp 18), type := 25, pos := "more.go:34", after := #[{ on := 34, ground := Ground.guard }], guard := some (34, false) }
abbrev qLwRp8_56 : Oper := { dst := some 130, op := Op.call { callee := Callee.value (Operand.func 12), args := #[Operand.tmp 129], argTypes := #[25] }, type := 4, pos := "more.go:34", after := #[{ on := 35, ground := Ground.data }, { on := 34, ground := Ground.chain }, { on := 34, ground := Ground.guard }], guard := some (34, false) }
abbrev qLwRp8_57 : Oper := { dst := some 131, op := Op.pick (Operand.tmp 128) (Operand.const (Value.bool true)) (Operand.tmp 130), type := 4, pos := "more.go:34", after := #[{ on := 34, ground := Ground.data }, { on := 36, ground := Ground.data }, { on := 31, ground := Ground.guard }], guard := some (31, true) }
abbrev qLwRp8_58 : Oper := { dst := some 132, op := Op.pick (Operand.tmp 125) (Operand.tmp 131) (Operand.const (Value.bool false)), type := 4, pos := "more.go:34", after := #[{ on := 31, ground := Ground.data }, { on := 37, ground := Ground.data }], guard := none }
abbrev qLwRp8_59 : Oper := { dst := some 2, op := Op.assign (Operand.tmp 132), type := 4, pos := "more.go:34", after := #[{ on := 38, ground := Ground.data }, { on := 36, ground := Ground.chain }, { on := 0, ground := Ground.phase }, { on := 1, ground := Ground.phase }, { on := 2, ground := Ground.phase }, { on := 3, ground := Ground.phase }, { on := 4, ground := Ground.phase }, { on := 5, ground := Ground.phase }, { on := 6, ground := Ground.phase }, { on := 7, ground := Ground.phase }, { on := 8, ground := Ground.phase }, { on := 9, ground := Ground.phase }, { on := 10, ground := Ground.phase }, { on := 11, ground := Ground.phase }, { on := 12, ground := Ground.phase }, { on := 13, ground := Ground.phase }, { on := 14, ground := Ground.phase }, { on := 15, ground := Ground.phase }, { on := 16, ground := Ground.phase }, { on := 17, ground := Ground.phase }, { on := 18, ground := Ground.phase }, { on := 19, ground := Ground.phase }, { on := 20, ground := Ground.phase }, { on := 21, ground := Ground.phase }, { on := 22, ground := Ground.phase }, { on := 23, ground := Ground.phase }, { on := 24, ground := Ground.phase }, { on := 25, ground := Ground.phase }, { on := 26, ground := Ground.phase }, { on := 27, ground := Ground.phase }, { on := 28, ground := Ground.phase }, { on := 29, ground := Ground.phase }, { on := 30, ground := Ground.phase }, { on := 31, ground := Ground.phase }, { on := 32, ground := Ground.phase }, { on := 33, ground := Ground.phase }, { on := 34, ground := Ground.phase }, { on := 35, ground := Ground.phase }, { on := 36, ground := Ground.phase }, { on := 37, ground := Ground.phase }, { on := 38, ground := Ground.phase }], guard := none }
set_option maxHeartbeats 16000000 in
theorem repeat8_any (x : Option Addr) (len cap : Nat) (zs : List Int) (w : World) (hr : IsRow .u8 w x len cap zs) :
  Calls Try.prog 7 #[.slice x len cap] w fun e w' => e = .returned (.bool true) ∧ Below w.heap.size w w' := by
 have HR := Lib.hid hr
 clear hr
 obtain ⟨fsHUG, huHUG⟩ := under_gr
 have HUG := Lib.hid huHUG
 clear huHUG
 obtain ⟨fsHUK, huHUK⟩ := under_lk
 have HUK := Lib.hid huHUK
 clear huHUK
 obtain ⟨fsHUT, huHUT⟩ := under_tb
 have HUT := Lib.hid huHUT
 clear huHUT
 have HS0 := Lib.hid (Hp.start w)
 go_enter Try.func7, Try.ntmps7
 go_wp2_with fail
 refine (awake8 _).mono ?_
 rintro e w1 ⟨rfl, hb⟩
 have HS1 := Lib.hid (HS0.out.calls hb)
 clear hb HS0
 go_wp2_with fail
 refine (new_hp 200 (by decide) HS1.out HR.out).mono ?_
 rintro e w2 ⟨rfl, hs⟩
 have HS2 : Hid (Hp w [.cd w1.heap.size] w2) := hs
 clear hs HS1
 generalize w1.heap.size = C at *
 go_wp2_with fail
 refine (locks_any C _ (HS2.out.codes 0 rfl)).mono ?_
 rintro e w4 ⟨t1, h1, v1, R1, rfl, hst, hlen, hrd, hin, hnew, hb, hc⟩
 have hs := HS2.out.drawsrd2 0 rfl hb hc R1 hin (fun r hr => .inl (hnew r hr))
 obtain ⟨a1, c1, rfl, _, _⟩ := hrd.1.shape
 obtain ⟨b1, d1, rfl, _, _⟩ := hrd.2.shape
 have HT1 := Lib.hid hrd
 have HO1 := Lib.hid hst.ok
 have HG1 := Lib.hid hst.ok.good
 have HL1 := Lib.hid hlen
 have HS3 : Hid (Hp w [.cd C, .rd R1] w4) := hs
 clear hs hst hlen hrd hin hnew hb hc HS2
 go_wp2_with fail
 refine (grant_any C _ ((HS3.out).codes 0 rfl)).mono ?_
 rintro e w21 ⟨g, rfl, hgo, hb, hc, _⟩
 have HS21 : Hid (Hp w [.cd C, .rd R1] w21) := (HS3.out).draws 0 rfl hb hc
 clear hb hc
 clear HS3
 have HGo := Lib.hid hgo
 have HG := Lib.hid hgo.good
 clear hgo
 obtain ⟨u, bb, cd, hu⟩ : ∃ u bb cd, requestR t1 g = (u, bb, cd) := ⟨_, _, _, rfl⟩
 have hcd : cd = 0 ∨ cd = 15 := by
  have h := request_err HO1.out HGo.out (by have := HL1.out; omega)
  rw [hu] at h
  exact h.imp id And.left
 have HUe := Lib.hid hu
 have HCd := Lib.hid hcd
 have HGu : Hid (GoodTb u) := Lib.hid (by have := request_good (g := g) HG1.out; rw [hu] at this; exact this)
 have HFa : Hid (cd = 0 → _) := Lib.hid (fun hc0 : cd = 0 => repeat_facts HO1.out (g := g) (by rw [hu]; exact hc0))
 clear hu hcd
 go_upto_region 5 with (first | ((with_reducible refine wpList_alloc_ob 25 (tbCells (.slice none 0 0) (.slice none 0 0)) ?_ ?_); (exact alloc_tb); simp only [Act.put, List.setIfInBounds_toArray, List.set_cons_zero, List.set_cons_succ]) | ((with_reducible refine wpList_alloc_ob 29 (grCells grNil) ?_ ?_); (exact alloc_gr); simp only [Act.put, List.setIfInBounds_toArray, List.set_cons_zero, List.set_cons_succ]) | ((with_reducible refine wpList_store_ob 25 (.tmp 4) (w21.heap.size) (tbCells (.slice a1 t1.held.length c1) (.slice b1 t1.wait.length d1)) (tbCells (.slice none 0 0) (.slice none 0 0)) 25 ?_ ?_ ?_ ?_ ?_ ?_ ?_); (exact rfl); (exact rfl); (exact (((HS21.out).put 25 (tbCells (.slice none 0 0) (.slice none 0 0))).put 29 (grCells grNil)).get 2 rfl); (exact info_tb); (exact rfl); (exact (oneCell_tb _ _ _ _ _ _)); skip) | ((with_reducible refine wpList_store_ob 29 (.tmp 5) ((w21.alloc (.cells (tbCells (.slice none 0 0) (.slice none 0 0)).toArray 25)).heap.size) (grCells g) (grCells grNil) 29 ?_ ?_ ?_ ?_ ?_ ?_ ?_); (exact rfl); (exact rfl); (exact ((((HS21.out).put 25 (tbCells (.slice none 0 0) (.slice none 0 0))).put 29 (grCells grNil)).row 2 rfl (tbCells (.slice a1 t1.held.length c1) (.slice b1 t1.wait.length d1))).get 3 rfl); (exact info_gr); (exact rfl); (exact (oneCell_gr _)); skip))
 have HS22 : Hid (Hp w [.cd C, .rd R1, .ob (w21.heap.size) 25 (tbCells (.slice a1 t1.held.length c1) (.slice b1 t1.wait.length d1)), .ob ((w21.alloc (.cells (tbCells (.slice none 0 0) (.slice none 0 0)).toArray 25)).heap.size) 29 (grCells g)] ((((w21.alloc (.cells (tbCells (.slice none 0 0) (.slice none 0 0)).toArray 25)).alloc (.cells (grCells grNil).toArray 29)).setRow (w21.heap.size) (tbCells (.slice a1 t1.held.length c1) (.slice b1 t1.wait.length d1)).toArray).setRow ((w21.alloc (.cells (tbCells (.slice none 0 0) (.slice none 0 0)).toArray 25)).heap.size) (grCells g).toArray)) := ((((HS21.out).put 25 (tbCells (.slice none 0 0) (.slice none 0 0))).put 29 (grCells grNil)).row 2 rfl (tbCells (.slice a1 t1.held.length c1) (.slice b1 t1.wait.length d1))).row 3 rfl (grCells g)
 clear HS21
 generalize ((((w21.alloc (.cells (tbCells (.slice none 0 0) (.slice none 0 0)).toArray 25)).alloc (.cells (grCells grNil).toArray 29)).setRow (w21.heap.size) (tbCells (.slice a1 t1.held.length c1) (.slice b1 t1.wait.length d1)).toArray).setRow ((w21.alloc (.cells (tbCells (.slice none 0 0) (.slice none 0 0)).toArray 25)).heap.size) (grCells g).toArray) = w22 at *
 generalize (w21.alloc (.cells (tbCells (.slice none 0 0) (.slice none 0 0)).toArray 25)).heap.size = B21 at *
 generalize w21.heap.size = B22 at *
 go_wp2_with (first | ((with_reducible refine wpList_load_ob 25 (.tmp 4) B22 (tbCells (.slice a1 t1.held.length c1) (.slice b1 t1.wait.length d1)) 25 HUT.out ?_ ?_ ?_ ?_ ?_); (exact rfl); (exact (HS22.out).get 2 rfl); (exact rfl); (exact info_tb); simp only [Act.put, List.setIfInBounds_toArray, List.set_cons_zero, List.set_cons_succ]) | ((with_reducible refine wpList_load_ob 29 (.tmp 5) B21 (grCells g) 29 HUG.out ?_ ?_ ?_ ?_ ?_); (exact rfl); (exact (HS22.out).get 3 rfl); (exact rfl); (exact info_gr); simp only [Act.put, List.setIfInBounds_toArray, List.set_cons_zero, List.set_cons_succ]))
 refine (tb3_as HUe.out (prequest_any g _ HT1.out ((HS22.out).reads 1 rfl) HG1.out HG.out)).mono ?_
 rintro e w23 ⟨h9, v9, R9, rfl, hrd2, hin2, hnew2, hb⟩
 obtain ⟨a9, c9, rfl, _, _⟩ := hrd2.1.shape
 obtain ⟨b9, d9, rfl, _, _⟩ := hrd2.2.shape
 have Hrd9 := Lib.hid hrd2
 have HS23 : Hid (Hp w [.cd C, .rd R1, .ob B22 25 (tbCells (.slice a1 t1.held.length c1) (.slice b1 t1.wait.length d1)), .ob B21 29 (grCells g), .rd R9] w23) := (HS22.out).addrd hb R9 hin2 (fun r hr => (hnew2 r hr).elim .inl (fun h => .inr ⟨.rd R1, List.mem_of_getElem? (i := 1) rfl, h⟩))
 clear hb hin2 hrd2 hnew2
 clear HS22
 go_upto_region 6 with (first | ((with_reducible refine wpList_alloc_ob 25 (tbCells (.slice none 0 0) (.slice none 0 0)) ?_ ?_); (exact alloc_tb); simp only [Act.put, List.setIfInBounds_toArray, List.set_cons_zero, List.set_cons_succ]) | ((with_reducible refine wpList_store_ob 25 (.tmp 6) (w23.heap.size) (tbCells (.slice a9 u.held.length c9) (.slice b9 u.wait.length d9)) (tbCells (.slice none 0 0) (.slice none 0 0)) 25 ?_ ?_ ?_ ?_ ?_ ?_ ?_); (exact rfl); (exact rfl); (exact ((HS23.out).put 25 (tbCells (.slice none 0 0) (.slice none 0 0))).get 5 rfl); (exact info_tb); (exact rfl); (exact (oneCell_tb _ _ _ _ _ _)); skip))
 have HS24 : Hid (Hp w [.cd C, .rd R1, .ob B22 25 (tbCells (.slice a1 t1.held.length c1) (.slice b1 t1.wait.length d1)), .ob B21 29 (grCells g), .rd R9, .ob (w23.heap.size) 25 (tbCells (.slice a9 u.held.length c9) (.slice b9 u.wait.length d9))] ((w23.alloc (.cells (tbCells (.slice none 0 0) (.slice none 0 0)).toArray 25)).setRow (w23.heap.size) (tbCells (.slice a9 u.held.length c9) (.slice b9 u.wait.length d9)).toArray)) := ((HS23.out).put 25 (tbCells (.slice none 0 0) (.slice none 0 0))).row 5 rfl (tbCells (.slice a9 u.held.length c9) (.slice b9 u.wait.length d9))
 clear HS23
 generalize ((w23.alloc (.cells (tbCells (.slice none 0 0) (.slice none 0 0)).toArray 25)).setRow (w23.heap.size) (tbCells (.slice a9 u.held.length c9) (.slice b9 u.wait.length d9)).toArray) = w24 at *
 generalize w23.heap.size = B23 at *
 by_cases hc0 : cd = 0
 case neg =>
  have e1 : cd = 15 := HCd.out.resolve_left hc0
  obtain ⟨e2, n2⟩ := ne_facts hc0
  have e3 : (cd == 15) = true := (eq_facts e1).1
  clear hc0 e1
  go_wp2_with fail
  go_ret
  exact ⟨rfl, HS24.out.old⟩
 case pos =>
  obtain ⟨e2, n2⟩ := eq_facts hc0
  obtain ⟨u', x, y, z, f1, f2, f3, f4, f5, f6, f7, f8, f9, f10, f11, f12, f13, f14⟩ := HFa.out hc0
  rw [HUe.out] at f1 f3 f4
  obtain rfl : u = u' := congrArg Prod.fst f1
  simp only at f3 f4
  have HU := Lib.hid f2.good
  have H3 := Lib.hid f3
  have H4 := Lib.hid f4
  have H5 := Lib.hid f5
  have H6 := Lib.hid f6
  have H7 := Lib.hid f7
  have HXg := Lib.hid f8.good
  have HYg := Lib.hid f9.good
  have HZo := Lib.hid f10
  have H11 := Lib.hid f11
  have H12 := Lib.hid f12
  have H13 := Lib.hid f13
  have H14 := Lib.hid f14
  clear f1 f2 f3 f4 f5 f6 f7 f8 f9 f10 f11 f12 f13 f14 HFa HCd hc0 HGu
  have HS25 : Hid (Hp w [.cd C, .ob B21 29 (grCells g), .ob B23 25 (tbCells (.slice a9 u.held.length c9) (.slice b9 u.wait.length d9)), .rd R9] w24) := HS24.out.pull [0, 3, 5, 4] rfl (pull_nd HS24.out.nd [0, 3, 5, 4] rfl (by decide))
  clear HS24
  go_upto_region 8 with (fail)
  go_wp2_with (first | ((with_reducible refine wpList_load_ob 25 (.tmp 6) B23 (tbCells (.slice a9 u.held.length c9) (.slice b9 u.wait.length d9)) 25 HUT.out ?_ ?_ ?_ ?_ ?_); (exact rfl); (exact (HS25.out).get 2 rfl); (exact rfl); (exact info_tb); simp only [Act.put, List.setIfInBounds_toArray, List.set_cons_zero, List.set_cons_succ]) | ((with_reducible refine wpList_load_ob 29 (.tmp 5) B21 (grCells g) 29 HUG.out ?_ ?_ ?_ ?_ ?_); (exact rfl); (exact (HS25.out).get 1 rfl); (exact rfl); (exact info_gr); simp only [Act.put, List.setIfInBounds_toArray, List.set_cons_zero, List.set_cons_succ]))
  refine (tb3_as H3.out (prequest_any g _ Hrd9.out ((HS25.out).reads 3 rfl) HU.out HG.out)).mono ?_
  rintro e w25 ⟨h9, v9, R8, rfl, hrd2, hin2, hnew2, hb⟩
  obtain ⟨a8, c8, rfl, _, _⟩ := hrd2.1.shape
  obtain ⟨b8, d8, rfl, _, _⟩ := hrd2.2.shape
  have Hrd8 := Lib.hid hrd2
  have HS26 : Hid (Hp w [.cd C, .ob B21 29 (grCells g), .ob B23 25 (tbCells (.slice a9 u.held.length c9) (.slice b9 u.wait.length d9)), .rd R9, .rd R8] w25) := (HS25.out).addrd hb R8 hin2 (fun r hr => (hnew2 r hr).elim .inl (fun h => .inr ⟨.rd R9, List.mem_of_getElem? (i := 3) rfl, h⟩))
  clear hb hin2 hrd2 hnew2
  clear HS25
  go_upto_region 9 with (first | ((with_reducible refine wpList_alloc_ob 25 (tbCells (.slice none 0 0) (.slice none 0 0)) ?_ ?_); (exact alloc_tb); simp only [Act.put, List.setIfInBounds_toArray, List.set_cons_zero, List.set_cons_succ]) | ((with_reducible refine wpList_store_ob 25 (.tmp 9) (w25.heap.size) (tbCells (.slice a8 u.held.length c8) (.slice b8 u.wait.length d8)) (tbCells (.slice none 0 0) (.slice none 0 0)) 25 ?_ ?_ ?_ ?_ ?_ ?_ ?_); (exact rfl); (exact rfl); (exact ((HS26.out).put 25 (tbCells (.slice none 0 0) (.slice none 0 0))).get 5 rfl); (exact info_tb); (exact rfl); (exact (oneCell_tb _ _ _ _ _ _)); skip))
  have HS27 : Hid (Hp w [.cd C, .ob B21 29 (grCells g), .ob B23 25 (tbCells (.slice a9 u.held.length c9) (.slice b9 u.wait.length d9)), .rd R9, .rd R8, .ob (w25.heap.size) 25 (tbCells (.slice a8 u.held.length c8) (.slice b8 u.wait.length d8))] ((w25.alloc (.cells (tbCells (.slice none 0 0) (.slice none 0 0)).toArray 25)).setRow (w25.heap.size) (tbCells (.slice a8 u.held.length c8) (.slice b8 u.wait.length d8)).toArray)) := ((HS26.out).put 25 (tbCells (.slice none 0 0) (.slice none 0 0))).row 5 rfl (tbCells (.slice a8 u.held.length c8) (.slice b8 u.wait.length d8))
  clear HS26
  generalize ((w25.alloc (.cells (tbCells (.slice none 0 0) (.slice none 0 0)).toArray 25)).setRow (w25.heap.size) (tbCells (.slice a8 u.held.length c8) (.slice b8 u.wait.length d8)).toArray) = w26 at *
  generalize w25.heap.size = B24 at *
  have p0 := HS27.out.at 2 rfl 0 rfl
  have p1 := HS27.out.at 2 rfl 1 rfl
  have q0 := HS27.out.at 5 rfl 0 rfl
  have q1 := HS27.out.at 5 rfl 1 rfl
  go_wp2_with fail
  refine (rSame_tb _ Hrd9.out ((HS27.out).reads 3 rfl) Hrd8.out ((HS27.out).reads 4 rfl) HU.out).mono ?_
  rintro e w300 ⟨rfl, hb⟩
  have HSa := Lib.hid (HS27.out.calls hb)
  clear hb p0 p1 q0 q1 HS27
  have HS28 : Hid (Hp w [.cd C, .ob B21 29 (grCells g), .ob B23 25 (tbCells (.slice a9 u.held.length c9) (.slice b9 u.wait.length d9)), .rd R9] w300) := HSa.out.pull [0, 1, 2, 3] rfl (pull_nd HSa.out.nd [0, 1, 2, 3] rfl (by decide))
  clear HSa
  go_upto_if 58 with (fail)
  go_cut [] (fun wz => Hp w [.cd C, .ob B21 29 (grCells g), .ob B23 25 (tbCells (.slice a9 u.held.length c9) (.slice b9 u.wait.length d9)), .rd R9] wz)
  case first =>
   cases bb
   case false =>
    go_wp2_with fail
    go_meet
    exact HS28.out
   case true =>
    have HK1 : Hid (GoodGr ⟨g.tx, g.page, g.slot, 1⟩) := Lib.hid ⟨HG.out.tx, HG.out.page, HG.out.slot, by show (Lit.int .i64 1).wf = true; decide⟩
    have H4t := Lib.hid (H4.out (by first | rfl | trivial))
    go_upto_region 12 with (fail)
    go_upto_region 13 with (first | ((with_reducible refine wpList_load_ob 29 (.tmp 5) B21 (grCells g) 29 HUG.out ?_ ?_ ?_ ?_ ?_); (exact rfl); (exact (HS28.out).get 1 rfl); (exact rfl); (exact info_gr); simp only [Act.put, List.setIfInBounds_toArray, List.set_cons_zero, List.set_cons_succ]) | ((with_reducible refine wpList_alloc_ob 29 (grCells grNil) ?_ ?_); (exact alloc_gr); simp only [Act.put, List.setIfInBounds_toArray, List.set_cons_zero, List.set_cons_succ]) | ((with_reducible refine wpList_store_ob 29 (.tmp 12) (w300.heap.size) (grCells g) (grCells grNil) 29 ?_ ?_ ?_ ?_ ?_ ?_ ?_); (exact rfl); (exact rfl); (exact ((HS28.out).put 29 (grCells grNil)).get 4 rfl); (exact info_gr); (exact rfl); (exact (oneCell_gr _)); skip))
    have HS29 : Hid (Hp w [.cd C, .ob B21 29 (grCells g), .ob B23 25 (tbCells (.slice a9 u.held.length c9) (.slice b9 u.wait.length d9)), .rd R9, .ob (w300.heap.size) 29 (grCells g)] ((w300.alloc (.cells (grCells grNil).toArray 29)).setRow (w300.heap.size) (grCells g).toArray)) := ((HS28.out).put 29 (grCells grNil)).row 4 rfl (grCells g)
    clear HS28
    generalize ((w300.alloc (.cells (grCells grNil).toArray 29)).setRow (w300.heap.size) (grCells g).toArray) = w27 at *
    generalize w300.heap.size = B25 at *
    have m0 := HS29.out.at 4 rfl 2 rfl
    have k3 := HS29.out.at 4 rfl 3 rfl
    have f3 := HS29.out.frozen 4 rfl 3
    go_upto_region 14 with (fail)
    clear m0 k3 f3
    have HS30 : Hid (Hp w [.cd C, .ob B21 29 (grCells g), .ob B23 25 (tbCells (.slice a9 u.held.length c9) (.slice b9 u.wait.length d9)), .rd R9, .ob B25 29 (grCells (⟨g.tx, g.page, g.slot, 1⟩ : Gr))] (w27.setCell ⟨B25, 3, none⟩ (.int .i64 1))) := (HS29.out.set 4 rfl 3 (.int .i64 1))
    clear HS29
    generalize (w27.setCell ⟨B25, 3, none⟩ (.int .i64 1)) = w28 at *
    go_wp2_with (first | ((with_reducible refine wpList_load_ob 25 (.tmp 6) B23 (tbCells (.slice a9 u.held.length c9) (.slice b9 u.wait.length d9)) 25 HUT.out ?_ ?_ ?_ ?_ ?_); (exact rfl); (exact (HS30.out).get 2 rfl); (exact rfl); (exact info_tb); simp only [Act.put, List.setIfInBounds_toArray, List.set_cons_zero, List.set_cons_succ]) | ((with_reducible refine wpList_load_ob 29 (.tmp 12) B25 (grCells (⟨g.tx, g.page, g.slot, 1⟩ : Gr)) 29 HUG.out ?_ ?_ ?_ ?_ ?_); (exact rfl); (exact (HS30.out).get 4 rfl); (exact rfl); (exact info_gr); simp only [Act.put, List.setIfInBounds_toArray, List.set_cons_zero, List.set_cons_succ]))
    refine (tb3_as H4t.out (prequest_any ⟨g.tx, g.page, g.slot, 1⟩ _ Hrd9.out ((HS30.out).reads 3 rfl) HU.out HK1.out)).mono ?_
    rintro e w29 ⟨h9, v9, R7, rfl, hrd2, hin2, hnew2, hb⟩
    obtain ⟨a7, c7, rfl, _, _⟩ := hrd2.1.shape
    obtain ⟨b7, d7, rfl, _, _⟩ := hrd2.2.shape
    have Hrd7 := Lib.hid hrd2
    have HS31 : Hid (Hp w [.cd C, .ob B21 29 (grCells g), .ob B23 25 (tbCells (.slice a9 u.held.length c9) (.slice b9 u.wait.length d9)), .rd R9, .ob B25 29 (grCells (⟨g.tx, g.page, g.slot, 1⟩ : Gr)), .rd R7] w29) := (HS30.out).addrd hb R7 hin2 (fun r hr => (hnew2 r hr).elim .inl (fun h => .inr ⟨.rd R9, List.mem_of_getElem? (i := 3) rfl, h⟩))
    clear hb hin2 hrd2 hnew2
    clear HS30
    go_upto_region 15 with (first | ((with_reducible refine wpList_alloc_ob 25 (tbCells (.slice none 0 0) (.slice none 0 0)) ?_ ?_); (exact alloc_tb); simp only [Act.put, List.setIfInBounds_toArray, List.set_cons_zero, List.set_cons_succ]) | ((with_reducible refine wpList_store_ob 25 (.tmp 13) (w29.heap.size) (tbCells (.slice a7 u.held.length c7) (.slice b7 u.wait.length d7)) (tbCells (.slice none 0 0) (.slice none 0 0)) 25 ?_ ?_ ?_ ?_ ?_ ?_ ?_); (exact rfl); (exact rfl); (exact ((HS31.out).put 25 (tbCells (.slice none 0 0) (.slice none 0 0))).get 6 rfl); (exact info_tb); (exact rfl); (exact (oneCell_tb _ _ _ _ _ _)); skip))
    have HS32 : Hid (Hp w [.cd C, .ob B21 29 (grCells g), .ob B23 25 (tbCells (.slice a9 u.held.length c9) (.slice b9 u.wait.length d9)), .rd R9, .ob B25 29 (grCells (⟨g.tx, g.page, g.slot, 1⟩ : Gr)), .rd R7, .ob (w29.heap.size) 25 (tbCells (.slice a7 u.held.length c7) (.slice b7 u.wait.length d7))] ((w29.alloc (.cells (tbCells (.slice none 0 0) (.slice none 0 0)).toArray 25)).setRow (w29.heap.size) (tbCells (.slice a7 u.held.length c7) (.slice b7 u.wait.length d7)).toArray)) := ((HS31.out).put 25 (tbCells (.slice none 0 0) (.slice none 0 0))).row 6 rfl (tbCells (.slice a7 u.held.length c7) (.slice b7 u.wait.length d7))
    clear HS31
    generalize ((w29.alloc (.cells (tbCells (.slice none 0 0) (.slice none 0 0)).toArray 25)).setRow (w29.heap.size) (tbCells (.slice a7 u.held.length c7) (.slice b7 u.wait.length d7)).toArray) = w30 at *
    generalize w29.heap.size = B26 at *
    have p0 := HS32.out.at 2 rfl 0 rfl
    have p1 := HS32.out.at 2 rfl 1 rfl
    have q0 := HS32.out.at 6 rfl 0 rfl
    have q1 := HS32.out.at 6 rfl 1 rfl
    go_wp2_with fail
    refine (rSame_tb _ Hrd7.out ((HS32.out).reads 5 rfl) Hrd9.out ((HS32.out).reads 3 rfl) HU.out).mono ?_
    rintro e w400 ⟨rfl, hb⟩
    have HSb := Lib.hid (HS32.out.calls hb)
    clear hb p0 p1 q0 q1 HS32
    go_wp2_with fail
    have HS33 : Hid (Hp w [.cd C, .ob B21 29 (grCells g), .ob B23 25 (tbCells (.slice a9 u.held.length c9) (.slice b9 u.wait.length d9)), .rd R9] w400) := HSb.out.pull [0, 1, 2, 3] rfl (pull_nd HSb.out.nd [0, 1, 2, 3] rfl (by decide))
    clear HSb
    go_meet
    exact HS33.out
  case rest =>
   have HY : Hid (Hp w [.cd C, .ob B21 29 (grCells g), .ob B23 25 (tbCells (.slice a9 u.held.length c9) (.slice b9 u.wait.length d9)), .rd R9] wc) := hcut
   clear hcut HS28
   generalize wc = w500 at *
   go_upto_region 17 with (fail)
   refine wp_region_held_drew (S := fun w' => w'.rangeAt B23 0 (tbCells (.slice a9 u.held.length c9) (.slice b9 u.wait.length d9)) ∧ w'.rangeAt B21 0 (grCells g)) (by kernel_rfl) (⟨(fun j v hv => by rw [Nat.zero_add]; exact ((HY.out).drew).at 2 rfl j hv), (fun j v hv => by rw [Nat.zero_add]; exact ((HY.out).drew).at 1 rfl j hv)⟩) (fun hHeld => ?_)
   apply dag_19 (I := fun (wd : World) (X14 : Nat) (X15 : Nat) (X16 : Nat) (ax : Option Addr) (cx : Nat) (bx : Option Addr) (dx : Nat) (Rx : List Rng) (av : Option Addr) (cv : Nat) (bv : Option Addr) (dv : Nat) (Rv : List Rng) (az : Option Addr) (cz : Nat) (bz : Option Addr) (dz : Nat) (Rz : List Rng) => Hid (Hp w [.cd C, .ob B21 29 (grCells g), .ob B23 25 (tbCells (.slice a9 u.held.length c9) (.slice b9 u.wait.length d9)), .rd R9, .rd Rx, .rd Rv, .rd Rz, .ob X14 25 (tbCells (.slice none 0 0) (.slice none 0 0)), .ob X15 25 (tbCells (.slice none 0 0) (.slice none 0 0)), .ob X16 25 (tbCells (.slice none 0 0) (.slice none 0 0))] wd) ∧ Hid (TbRd (.slice ax x.held.length cx) (.slice bx x.wait.length dx) x Rx) ∧ Hid (TbRd (.slice av y.held.length cv) (.slice bv y.wait.length dv) y Rv) ∧ Hid (TbRd (.slice az z.held.length cz) (.slice bz z.wait.length dz) z Rz) ∧ (fun w' => w'.rangeAt B23 0 (tbCells (.slice a9 u.held.length c9) (.slice b9 u.wait.length d9)) ∧ w'.rangeAt B21 0 (grCells g)) wd)
   case main =>
    intro N24
    apply dag_14 (I := fun (wd : World) (X14 : Nat) (X15 : Nat) (X16 : Nat) (ax : Option Addr) (cx : Nat) (bx : Option Addr) (dx : Nat) (Rx : List Rng) (av : Option Addr) (cv : Nat) (bv : Option Addr) (dv : Nat) (Rv : List Rng) => Hid (Hp w [.cd C, .ob B21 29 (grCells g), .ob B23 25 (tbCells (.slice a9 u.held.length c9) (.slice b9 u.wait.length d9)), .rd R9, .rd Rx, .rd Rv, .ob X14 25 (tbCells (.slice none 0 0) (.slice none 0 0)), .ob X15 25 (tbCells (.slice none 0 0) (.slice none 0 0)), .ob X16 25 (tbCells (.slice none 0 0) (.slice none 0 0))] wd) ∧ Hid (TbRd (.slice ax x.held.length cx) (.slice bx x.wait.length dx) x Rx) ∧ Hid (TbRd (.slice av y.held.length cv) (.slice bv y.wait.length dv) y Rv) ∧ (fun w' => w'.rangeAt B23 0 (tbCells (.slice a9 u.held.length c9) (.slice b9 u.wait.length d9)) ∧ w'.rangeAt B21 0 (grCells g)) wd)
    case main =>
     intro N23
     apply dag_18 (I := fun (wd : World) (X15 : Nat) (X16 : Nat) (ax : Option Addr) (cx : Nat) (bx : Option Addr) (dx : Nat) (Rx : List Rng) (av : Option Addr) (cv : Nat) (bv : Option Addr) (dv : Nat) (Rv : List Rng) (az : Option Addr) (cz : Nat) (bz : Option Addr) (dz : Nat) (Rz : List Rng) => Hid (Hp w [.cd C, .ob B21 29 (grCells g), .ob B23 25 (tbCells (.slice a9 u.held.length c9) (.slice b9 u.wait.length d9)), .rd R9, .rd Rx, .rd Rv, .rd Rz, .ob X15 25 (tbCells (.slice none 0 0) (.slice none 0 0)), .ob X16 25 (tbCells (.slice none 0 0) (.slice none 0 0))] wd) ∧ Hid (TbRd (.slice ax x.held.length cx) (.slice bx x.wait.length dx) x Rx) ∧ Hid (TbRd (.slice av y.held.length cv) (.slice bv y.wait.length dv) y Rv) ∧ Hid (TbRd (.slice az z.held.length cz) (.slice bz z.wait.length dz) z Rz) ∧ (fun w' => w'.rangeAt B23 0 (tbCells (.slice a9 u.held.length c9) (.slice b9 u.wait.length d9)) ∧ w'.rangeAt B21 0 (grCells g)) wd)
     case main =>
      intro N22
      apply dag_18 (I := fun (wd : World) (X14 : Nat) (X16 : Nat) (ax : Option Addr) (cx : Nat) (bx : Option Addr) (dx : Nat) (Rx : List Rng) (av : Option Addr) (cv : Nat) (bv : Option Addr) (dv : Nat) (Rv : List Rng) (az : Option Addr) (cz : Nat) (bz : Option Addr) (dz : Nat) (Rz : List Rng) => Hid (Hp w [.cd C, .ob B21 29 (grCells g), .ob B23 25 (tbCells (.slice a9 u.held.length c9) (.slice b9 u.wait.length d9)), .rd R9, .rd Rx, .rd Rv, .rd Rz, .ob X14 25 (tbCells (.slice none 0 0) (.slice none 0 0)), .ob X16 25 (tbCells (.slice none 0 0) (.slice none 0 0))] wd) ∧ Hid (TbRd (.slice ax x.held.length cx) (.slice bx x.wait.length dx) x Rx) ∧ Hid (TbRd (.slice av y.held.length cv) (.slice bv y.wait.length dv) y Rv) ∧ Hid (TbRd (.slice az z.held.length cz) (.slice bz z.wait.length dz) z Rz) ∧ (fun w' => w'.rangeAt B23 0 (tbCells (.slice a9 u.held.length c9) (.slice b9 u.wait.length d9)) ∧ w'.rangeAt B21 0 (grCells g)) wd)
      case main =>
       intro N21
       apply dag_18 (I := fun (wd : World) (X14 : Nat) (X15 : Nat) (ax : Option Addr) (cx : Nat) (bx : Option Addr) (dx : Nat) (Rx : List Rng) (av : Option Addr) (cv : Nat) (bv : Option Addr) (dv : Nat) (Rv : List Rng) (az : Option Addr) (cz : Nat) (bz : Option Addr) (dz : Nat) (Rz : List Rng) => Hid (Hp w [.cd C, .ob B21 29 (grCells g), .ob B23 25 (tbCells (.slice a9 u.held.length c9) (.slice b9 u.wait.length d9)), .rd R9, .rd Rx, .rd Rv, .rd Rz, .ob X14 25 (tbCells (.slice none 0 0) (.slice none 0 0)), .ob X15 25 (tbCells (.slice none 0 0) (.slice none 0 0))] wd) ∧ Hid (TbRd (.slice ax x.held.length cx) (.slice bx x.wait.length dx) x Rx) ∧ Hid (TbRd (.slice av y.held.length cv) (.slice bv y.wait.length dv) y Rv) ∧ Hid (TbRd (.slice az z.held.length cz) (.slice bz z.wait.length dz) z Rz) ∧ (fun w' => w'.rangeAt B23 0 (tbCells (.slice a9 u.held.length c9) (.slice b9 u.wait.length d9)) ∧ w'.rangeAt B21 0 (grCells g)) wd)
       case main =>
        intro N20
        apply dag_9 (I := fun (wd : World) (X14 : Nat) (X15 : Nat) (X16 : Nat) (ax : Option Addr) (cx : Nat) (bx : Option Addr) (dx : Nat) (Rx : List Rng) => Hid (Hp w [.cd C, .ob B21 29 (grCells g), .ob B23 25 (tbCells (.slice a9 u.held.length c9) (.slice b9 u.wait.length d9)), .rd R9, .rd Rx, .ob X14 25 (tbCells (.slice none 0 0) (.slice none 0 0)), .ob X15 25 (tbCells (.slice none 0 0) (.slice none 0 0)), .ob X16 25 (tbCells (.slice none 0 0) (.slice none 0 0))] wd) ∧ Hid (TbRd (.slice ax x.held.length cx) (.slice bx x.wait.length dx) x Rx) ∧ (fun w' => w'.rangeAt B23 0 (tbCells (.slice a9 u.held.length c9) (.slice b9 u.wait.length d9)) ∧ w'.rangeAt B21 0 (grCells g)) wd)
        case main =>
         intro N19
         apply dag_13 (I := fun (wd : World) (X15 : Nat) (X16 : Nat) (ax : Option Addr) (cx : Nat) (bx : Option Addr) (dx : Nat) (Rx : List Rng) (av : Option Addr) (cv : Nat) (bv : Option Addr) (dv : Nat) (Rv : List Rng) => Hid (Hp w [.cd C, .ob B21 29 (grCells g), .ob B23 25 (tbCells (.slice a9 u.held.length c9) (.slice b9 u.wait.length d9)), .rd R9, .rd Rx, .rd Rv, .ob X15 25 (tbCells (.slice none 0 0) (.slice none 0 0)), .ob X16 25 (tbCells (.slice none 0 0) (.slice none 0 0))] wd) ∧ Hid (TbRd (.slice ax x.held.length cx) (.slice bx x.wait.length dx) x Rx) ∧ Hid (TbRd (.slice av y.held.length cv) (.slice bv y.wait.length dv) y Rv) ∧ (fun w' => w'.rangeAt B23 0 (tbCells (.slice a9 u.held.length c9) (.slice b9 u.wait.length d9)) ∧ w'.rangeAt B21 0 (grCells g)) wd)
         case main =>
          intro N18
          apply dag_13 (I := fun (wd : World) (X14 : Nat) (X16 : Nat) (ax : Option Addr) (cx : Nat) (bx : Option Addr) (dx : Nat) (Rx : List Rng) (av : Option Addr) (cv : Nat) (bv : Option Addr) (dv : Nat) (Rv : List Rng) => Hid (Hp w [.cd C, .ob B21 29 (grCells g), .ob B23 25 (tbCells (.slice a9 u.held.length c9) (.slice b9 u.wait.length d9)), .rd R9, .rd Rx, .rd Rv, .ob X14 25 (tbCells (.slice none 0 0) (.slice none 0 0)), .ob X16 25 (tbCells (.slice none 0 0) (.slice none 0 0))] wd) ∧ Hid (TbRd (.slice ax x.held.length cx) (.slice bx x.wait.length dx) x Rx) ∧ Hid (TbRd (.slice av y.held.length cv) (.slice bv y.wait.length dv) y Rv) ∧ (fun w' => w'.rangeAt B23 0 (tbCells (.slice a9 u.held.length c9) (.slice b9 u.wait.length d9)) ∧ w'.rangeAt B21 0 (grCells g)) wd)
          case main =>
           intro N17
           apply dag_13 (I := fun (wd : World) (X14 : Nat) (X15 : Nat) (ax : Option Addr) (cx : Nat) (bx : Option Addr) (dx : Nat) (Rx : List Rng) (av : Option Addr) (cv : Nat) (bv : Option Addr) (dv : Nat) (Rv : List Rng) => Hid (Hp w [.cd C, .ob B21 29 (grCells g), .ob B23 25 (tbCells (.slice a9 u.held.length c9) (.slice b9 u.wait.length d9)), .rd R9, .rd Rx, .rd Rv, .ob X14 25 (tbCells (.slice none 0 0) (.slice none 0 0)), .ob X15 25 (tbCells (.slice none 0 0) (.slice none 0 0))] wd) ∧ Hid (TbRd (.slice ax x.held.length cx) (.slice bx x.wait.length dx) x Rx) ∧ Hid (TbRd (.slice av y.held.length cv) (.slice bv y.wait.length dv) y Rv) ∧ (fun w' => w'.rangeAt B23 0 (tbCells (.slice a9 u.held.length c9) (.slice b9 u.wait.length d9)) ∧ w'.rangeAt B21 0 (grCells g)) wd)
           case main =>
            intro N16
            apply dag_17 (I := fun (wd : World) (X16 : Nat) (ax : Option Addr) (cx : Nat) (bx : Option Addr) (dx : Nat) (Rx : List Rng) (av : Option Addr) (cv : Nat) (bv : Option Addr) (dv : Nat) (Rv : List Rng) (az : Option Addr) (cz : Nat) (bz : Option Addr) (dz : Nat) (Rz : List Rng) => Hid (Hp w [.cd C, .ob B21 29 (grCells g), .ob B23 25 (tbCells (.slice a9 u.held.length c9) (.slice b9 u.wait.length d9)), .rd R9, .rd Rx, .rd Rv, .rd Rz, .ob X16 25 (tbCells (.slice none 0 0) (.slice none 0 0))] wd) ∧ Hid (TbRd (.slice ax x.held.length cx) (.slice bx x.wait.length dx) x Rx) ∧ Hid (TbRd (.slice av y.held.length cv) (.slice bv y.wait.length dv) y Rv) ∧ Hid (TbRd (.slice az z.held.length cz) (.slice bz z.wait.length dz) z Rz) ∧ (fun w' => w'.rangeAt B23 0 (tbCells (.slice a9 u.held.length c9) (.slice b9 u.wait.length d9)) ∧ w'.rangeAt B21 0 (grCells g)) wd)
            case main =>
             intro N2
             apply dag_17 (I := fun (wd : World) (X15 : Nat) (ax : Option Addr) (cx : Nat) (bx : Option Addr) (dx : Nat) (Rx : List Rng) (av : Option Addr) (cv : Nat) (bv : Option Addr) (dv : Nat) (Rv : List Rng) (az : Option Addr) (cz : Nat) (bz : Option Addr) (dz : Nat) (Rz : List Rng) => Hid (Hp w [.cd C, .ob B21 29 (grCells g), .ob B23 25 (tbCells (.slice a9 u.held.length c9) (.slice b9 u.wait.length d9)), .rd R9, .rd Rx, .rd Rv, .rd Rz, .ob X15 25 (tbCells (.slice none 0 0) (.slice none 0 0))] wd) ∧ Hid (TbRd (.slice ax x.held.length cx) (.slice bx x.wait.length dx) x Rx) ∧ Hid (TbRd (.slice av y.held.length cv) (.slice bv y.wait.length dv) y Rv) ∧ Hid (TbRd (.slice az z.held.length cz) (.slice bz z.wait.length dz) z Rz) ∧ (fun w' => w'.rangeAt B23 0 (tbCells (.slice a9 u.held.length c9) (.slice b9 u.wait.length d9)) ∧ w'.rangeAt B21 0 (grCells g)) wd)
             case main =>
              intro N1
              apply dag_17 (I := fun (wd : World) (X14 : Nat) (ax : Option Addr) (cx : Nat) (bx : Option Addr) (dx : Nat) (Rx : List Rng) (av : Option Addr) (cv : Nat) (bv : Option Addr) (dv : Nat) (Rv : List Rng) (az : Option Addr) (cz : Nat) (bz : Option Addr) (dz : Nat) (Rz : List Rng) => Hid (Hp w [.cd C, .ob B21 29 (grCells g), .ob B23 25 (tbCells (.slice a9 u.held.length c9) (.slice b9 u.wait.length d9)), .rd R9, .rd Rx, .rd Rv, .rd Rz, .ob X14 25 (tbCells (.slice none 0 0) (.slice none 0 0))] wd) ∧ Hid (TbRd (.slice ax x.held.length cx) (.slice bx x.wait.length dx) x Rx) ∧ Hid (TbRd (.slice av y.held.length cv) (.slice bv y.wait.length dv) y Rv) ∧ Hid (TbRd (.slice az z.held.length cz) (.slice bz z.wait.length dz) z Rz) ∧ (fun w' => w'.rangeAt B23 0 (tbCells (.slice a9 u.held.length c9) (.slice b9 u.wait.length d9)) ∧ w'.rangeAt B21 0 (grCells g)) wd)
              case main =>
               intro N0
               apply dag_4 (I := fun (wd : World) (X14 : Nat) (X15 : Nat) (X16 : Nat) => Hid (Hp w [.cd C, .ob B21 29 (grCells g), .ob B23 25 (tbCells (.slice a9 u.held.length c9) (.slice b9 u.wait.length d9)), .rd R9, .ob X14 25 (tbCells (.slice none 0 0) (.slice none 0 0)), .ob X15 25 (tbCells (.slice none 0 0) (.slice none 0 0)), .ob X16 25 (tbCells (.slice none 0 0) (.slice none 0 0))] wd) ∧ (fun w' => w'.rangeAt B23 0 (tbCells (.slice a9 u.held.length c9) (.slice b9 u.wait.length d9)) ∧ w'.rangeAt B21 0 (grCells g)) wd)
               case main =>
                intro N15
                apply dag_8 (I := fun (wd : World) (X15 : Nat) (X16 : Nat) (ax : Option Addr) (cx : Nat) (bx : Option Addr) (dx : Nat) (Rx : List Rng) => Hid (Hp w [.cd C, .ob B21 29 (grCells g), .ob B23 25 (tbCells (.slice a9 u.held.length c9) (.slice b9 u.wait.length d9)), .rd R9, .rd Rx, .ob X15 25 (tbCells (.slice none 0 0) (.slice none 0 0)), .ob X16 25 (tbCells (.slice none 0 0) (.slice none 0 0))] wd) ∧ Hid (TbRd (.slice ax x.held.length cx) (.slice bx x.wait.length dx) x Rx) ∧ (fun w' => w'.rangeAt B23 0 (tbCells (.slice a9 u.held.length c9) (.slice b9 u.wait.length d9)) ∧ w'.rangeAt B21 0 (grCells g)) wd)
                case main =>
                 intro N14
                 apply dag_8 (I := fun (wd : World) (X14 : Nat) (X16 : Nat) (ax : Option Addr) (cx : Nat) (bx : Option Addr) (dx : Nat) (Rx : List Rng) => Hid (Hp w [.cd C, .ob B21 29 (grCells g), .ob B23 25 (tbCells (.slice a9 u.held.length c9) (.slice b9 u.wait.length d9)), .rd R9, .rd Rx, .ob X14 25 (tbCells (.slice none 0 0) (.slice none 0 0)), .ob X16 25 (tbCells (.slice none 0 0) (.slice none 0 0))] wd) ∧ Hid (TbRd (.slice ax x.held.length cx) (.slice bx x.wait.length dx) x Rx) ∧ (fun w' => w'.rangeAt B23 0 (tbCells (.slice a9 u.held.length c9) (.slice b9 u.wait.length d9)) ∧ w'.rangeAt B21 0 (grCells g)) wd)
                 case main =>
                  intro N13
                  apply dag_8 (I := fun (wd : World) (X14 : Nat) (X15 : Nat) (ax : Option Addr) (cx : Nat) (bx : Option Addr) (dx : Nat) (Rx : List Rng) => Hid (Hp w [.cd C, .ob B21 29 (grCells g), .ob B23 25 (tbCells (.slice a9 u.held.length c9) (.slice b9 u.wait.length d9)), .rd R9, .rd Rx, .ob X14 25 (tbCells (.slice none 0 0) (.slice none 0 0)), .ob X15 25 (tbCells (.slice none 0 0) (.slice none 0 0))] wd) ∧ Hid (TbRd (.slice ax x.held.length cx) (.slice bx x.wait.length dx) x Rx) ∧ (fun w' => w'.rangeAt B23 0 (tbCells (.slice a9 u.held.length c9) (.slice b9 u.wait.length d9)) ∧ w'.rangeAt B21 0 (grCells g)) wd)
                  case main =>
                   intro N12
                   apply dag_12 (I := fun (wd : World) (X16 : Nat) (ax : Option Addr) (cx : Nat) (bx : Option Addr) (dx : Nat) (Rx : List Rng) (av : Option Addr) (cv : Nat) (bv : Option Addr) (dv : Nat) (Rv : List Rng) => Hid (Hp w [.cd C, .ob B21 29 (grCells g), .ob B23 25 (tbCells (.slice a9 u.held.length c9) (.slice b9 u.wait.length d9)), .rd R9, .rd Rx, .rd Rv, .ob X16 25 (tbCells (.slice none 0 0) (.slice none 0 0))] wd) ∧ Hid (TbRd (.slice ax x.held.length cx) (.slice bx x.wait.length dx) x Rx) ∧ Hid (TbRd (.slice av y.held.length cv) (.slice bv y.wait.length dv) y Rv) ∧ (fun w' => w'.rangeAt B23 0 (tbCells (.slice a9 u.held.length c9) (.slice b9 u.wait.length d9)) ∧ w'.rangeAt B21 0 (grCells g)) wd)
                   case main =>
                    intro N5
                    apply dag_12 (I := fun (wd : World) (X15 : Nat) (ax : Option Addr) (cx : Nat) (bx : Option Addr) (dx : Nat) (Rx : List Rng) (av : Option Addr) (cv : Nat) (bv : Option Addr) (dv : Nat) (Rv : List Rng) => Hid (Hp w [.cd C, .ob B21 29 (grCells g), .ob B23 25 (tbCells (.slice a9 u.held.length c9) (.slice b9 u.wait.length d9)), .rd R9, .rd Rx, .rd Rv, .ob X15 25 (tbCells (.slice none 0 0) (.slice none 0 0))] wd) ∧ Hid (TbRd (.slice ax x.held.length cx) (.slice bx x.wait.length dx) x Rx) ∧ Hid (TbRd (.slice av y.held.length cv) (.slice bv y.wait.length dv) y Rv) ∧ (fun w' => w'.rangeAt B23 0 (tbCells (.slice a9 u.held.length c9) (.slice b9 u.wait.length d9)) ∧ w'.rangeAt B21 0 (grCells g)) wd)
                    case main =>
                     intro N4
                     apply dag_12 (I := fun (wd : World) (X14 : Nat) (ax : Option Addr) (cx : Nat) (bx : Option Addr) (dx : Nat) (Rx : List Rng) (av : Option Addr) (cv : Nat) (bv : Option Addr) (dv : Nat) (Rv : List Rng) => Hid (Hp w [.cd C, .ob B21 29 (grCells g), .ob B23 25 (tbCells (.slice a9 u.held.length c9) (.slice b9 u.wait.length d9)), .rd R9, .rd Rx, .rd Rv, .ob X14 25 (tbCells (.slice none 0 0) (.slice none 0 0))] wd) ∧ Hid (TbRd (.slice ax x.held.length cx) (.slice bx x.wait.length dx) x Rx) ∧ Hid (TbRd (.slice av y.held.length cv) (.slice bv y.wait.length dv) y Rv) ∧ (fun w' => w'.rangeAt B23 0 (tbCells (.slice a9 u.held.length c9) (.slice b9 u.wait.length d9)) ∧ w'.rangeAt B21 0 (grCells g)) wd)
                     case main =>
                      intro N3
                      apply dag_3 (I := fun (wd : World) (X15 : Nat) (X16 : Nat) => Hid (Hp w [.cd C, .ob B21 29 (grCells g), .ob B23 25 (tbCells (.slice a9 u.held.length c9) (.slice b9 u.wait.length d9)), .rd R9, .ob X15 25 (tbCells (.slice none 0 0) (.slice none 0 0)), .ob X16 25 (tbCells (.slice none 0 0) (.slice none 0 0))] wd) ∧ (fun w' => w'.rangeAt B23 0 (tbCells (.slice a9 u.held.length c9) (.slice b9 u.wait.length d9)) ∧ w'.rangeAt B21 0 (grCells g)) wd)
                      case main =>
                       intro N11
                       apply dag_3 (I := fun (wd : World) (X14 : Nat) (X16 : Nat) => Hid (Hp w [.cd C, .ob B21 29 (grCells g), .ob B23 25 (tbCells (.slice a9 u.held.length c9) (.slice b9 u.wait.length d9)), .rd R9, .ob X14 25 (tbCells (.slice none 0 0) (.slice none 0 0)), .ob X16 25 (tbCells (.slice none 0 0) (.slice none 0 0))] wd) ∧ (fun w' => w'.rangeAt B23 0 (tbCells (.slice a9 u.held.length c9) (.slice b9 u.wait.length d9)) ∧ w'.rangeAt B21 0 (grCells g)) wd)
                       case main =>
                        intro N10
                        apply dag_3 (I := fun (wd : World) (X14 : Nat) (X15 : Nat) => Hid (Hp w [.cd C, .ob B21 29 (grCells g), .ob B23 25 (tbCells (.slice a9 u.held.length c9) (.slice b9 u.wait.length d9)), .rd R9, .ob X14 25 (tbCells (.slice none 0 0) (.slice none 0 0)), .ob X15 25 (tbCells (.slice none 0 0) (.slice none 0 0))] wd) ∧ (fun w' => w'.rangeAt B23 0 (tbCells (.slice a9 u.held.length c9) (.slice b9 u.wait.length d9)) ∧ w'.rangeAt B21 0 (grCells g)) wd)
                        case main =>
                         intro N9
                         apply dag_7 (I := fun (wd : World) (X16 : Nat) (ax : Option Addr) (cx : Nat) (bx : Option Addr) (dx : Nat) (Rx : List Rng) => Hid (Hp w [.cd C, .ob B21 29 (grCells g), .ob B23 25 (tbCells (.slice a9 u.held.length c9) (.slice b9 u.wait.length d9)), .rd R9, .rd Rx, .ob X16 25 (tbCells (.slice none 0 0) (.slice none 0 0))] wd) ∧ Hid (TbRd (.slice ax x.held.length cx) (.slice bx x.wait.length dx) x Rx) ∧ (fun w' => w'.rangeAt B23 0 (tbCells (.slice a9 u.held.length c9) (.slice b9 u.wait.length d9)) ∧ w'.rangeAt B21 0 (grCells g)) wd)
                         case main =>
                          intro N8
                          apply dag_7 (I := fun (wd : World) (X15 : Nat) (ax : Option Addr) (cx : Nat) (bx : Option Addr) (dx : Nat) (Rx : List Rng) => Hid (Hp w [.cd C, .ob B21 29 (grCells g), .ob B23 25 (tbCells (.slice a9 u.held.length c9) (.slice b9 u.wait.length d9)), .rd R9, .rd Rx, .ob X15 25 (tbCells (.slice none 0 0) (.slice none 0 0))] wd) ∧ Hid (TbRd (.slice ax x.held.length cx) (.slice bx x.wait.length dx) x Rx) ∧ (fun w' => w'.rangeAt B23 0 (tbCells (.slice a9 u.held.length c9) (.slice b9 u.wait.length d9)) ∧ w'.rangeAt B21 0 (grCells g)) wd)
                          case main =>
                           intro N7
                           apply dag_7 (I := fun (wd : World) (X14 : Nat) (ax : Option Addr) (cx : Nat) (bx : Option Addr) (dx : Nat) (Rx : List Rng) => Hid (Hp w [.cd C, .ob B21 29 (grCells g), .ob B23 25 (tbCells (.slice a9 u.held.length c9) (.slice b9 u.wait.length d9)), .rd R9, .rd Rx, .ob X14 25 (tbCells (.slice none 0 0) (.slice none 0 0))] wd) ∧ Hid (TbRd (.slice ax x.held.length cx) (.slice bx x.wait.length dx) x Rx) ∧ (fun w' => w'.rangeAt B23 0 (tbCells (.slice a9 u.held.length c9) (.slice b9 u.wait.length d9)) ∧ w'.rangeAt B21 0 (grCells g)) wd)
                           case main =>
                            intro N6
                            refine tk 0 qLwRp8_0 (some 80) (yieldsIf_load_mid (by rfl) 25 (.tmp 6) rfl B23 (0) rfl (tbCells (.slice a9 u.held.length c9) (.slice b9 u.wait.length d9)) _ (fun _ h => h.1) HUT.out rfl (info_tb)) hHeld ?_
                            try simp only [z0, z1, z2, z3]
                            refine tk 1 qLwRp8_1 (some 81) (v := ?q102v) (Or.inl ⟨by rfl, ?q102h⟩) hHeld ?q102r
                            case q102h => (intro wq hSw; clear hSw; go_simp; try with_reducible rfl)
                            try simp only [z0, z1, z2, z3]
                            refine tk 2 qLwRp8_2 (some 82) (v := .int .i64 g.tx) (Or.inl ⟨by rfl, ?q103h⟩) hHeld ?q103r
                            case q103h => (intro wq hSw; have lq := (hSw.2) 0 (.int .i64 g.tx) rfl; simp only [Nat.zero_add] at lq; clear hSw; go_simp; try with_reducible rfl)
                            try simp only [z0, z1, z2, z3]
                            refine tk 4 qLwRp8_3 (some 84) (yieldsIf_load_mid (by rfl) 25 (.tmp 6) rfl B23 (0) rfl (tbCells (.slice a9 u.held.length c9) (.slice b9 u.wait.length d9)) _ (fun _ h => h.1) HUT.out rfl (info_tb)) hHeld ?_
                            try simp only [z0, z1, z2, z3]
                            refine tk 5 qLwRp8_4 (some 85) (v := ?q105v) (Or.inl ⟨by rfl, ?q105h⟩) hHeld ?q105r
                            case q105h => (intro wq hSw; clear hSw; go_simp; try with_reducible rfl)
                            try simp only [z0, z1, z2, z3]
                            refine tk 6 qLwRp8_5 (some 86) (v := .int .i64 g.tx) (Or.inl ⟨by rfl, ?q106h⟩) hHeld ?q106r
                            case q106h => (intro wq hSw; have lq := (hSw.2) 0 (.int .i64 g.tx) rfl; simp only [Nat.zero_add] at lq; clear hSw; go_simp; try with_reducible rfl)
                            try simp only [z0, z1, z2, z3]
                            refine tk 8 qLwRp8_6 (some 88) (yieldsIf_load_mid (by rfl) 25 (.tmp 6) rfl B23 (0) rfl (tbCells (.slice a9 u.held.length c9) (.slice b9 u.wait.length d9)) _ (fun _ h => h.1) HUT.out rfl (info_tb)) hHeld ?_
                            try simp only [z0, z1, z2, z3]
                            refine tk 9 qLwRp8_7 (some 89) (v := ?q108v) (Or.inl ⟨by rfl, ?q108h⟩) hHeld ?q108r
                            case q108h => (intro wq hSw; clear hSw; go_simp; try with_reducible rfl)
                            try simp only [z0, z1, z2, z3]
                            refine tk 10 qLwRp8_8 (some 90) (v := .int .i64 g.tx) (Or.inl ⟨by rfl, ?q109h⟩) hHeld ?q109r
                            case q109h => (intro wq hSw; have lq := (hSw.2) 0 (.int .i64 g.tx) rfl; simp only [Nat.zero_add] at lq; clear hSw; go_simp; try with_reducible rfl)
                            try simp only [z0, z1, z2, z3]
                            refine tk 11 qLwRp8_9 (some 91) (v := ?q110v) (Or.inl ⟨by rfl, ?q110h⟩) hHeld ?q110r
                            case q110h => (intro wq hSw; clear hSw; go_simp; try with_reducible rfl)
                            try simp only [z0, z1, z2, z3]
                            refine tk 12 qLwRp8_10 (some 92) (yieldsIf_load_mid (by rfl) 27 (.tmp 91) rfl B21 (1) rfl (lkCells g.lock) _ (fun _ h => range_part (h.2) (mid_lk g)) HUK.out rfl (info_lk)) hHeld ?_
                            try simp only [z0, z1, z2, z3]
                            refine wpAnyH_ready (rs := [3, 14, 15, 16]) (by kernel_rfl) (by simp) ?_
                            refine AllReadyH.cons (o := qLwRp8_11) rfl (fun K hK => ?_) (AllReadyH.cons (o := qLwRp8_12) rfl (fun K hK => ?_) (AllReadyH.cons (o := qLwRp8_13) rfl (fun K hK => ?_) (AllReadyH.cons (o := qLwRp8_14) rfl (fun K hK => ?_) (AllReadyH.nil))))
                            ·go_simp
                             go_wp2_with (go_at_call 28; refine (tb_as H5.out (prelease_any g.tx _ Hrd9.out (((HY.out).drew).reads 3 rfl) HU.out)).mono ?_; rintro e w511 ⟨h9, v9, Rx, rfl, hrd2, hin2, hnew2, hb⟩)
                             obtain ⟨ax, cx, rfl, _, _⟩ := hrd2.1.shape
                             obtain ⟨bx, dx, rfl, _, _⟩ := hrd2.2.shape
                             have Hrdx := Lib.hid hrd2
                             have HS511 : Hid (Hp w [.cd C, .ob B21 29 (grCells g), .ob B23 25 (tbCells (.slice a9 u.held.length c9) (.slice b9 u.wait.length d9)), .rd R9, .rd Rx] w511) := ((HY.out).drew).addrd hb Rx hin2 (fun r hr => (hnew2 r hr).elim .inl (fun h => .inr ⟨.rd R9, List.mem_of_getElem? (i := 3) rfl, h⟩))
                             refine hK.out _ _ (⟨(fun j v hv => by rw [Nat.zero_add]; exact (HS511.out).at 2 rfl j hv), (fun j v hv => by rw [Nat.zero_add]; exact (HS511.out).at 1 rfl j hv)⟩) (fun hHeld => ?_)
                             clear hK K hb hin2 hrd2 hnew2
                             try simp only [z0, z1, z2, z3]
                             refine wpAnyH_ready (rs := [7, 14, 15, 16]) (by kernel_rfl) (by simp) ?_
                             refine AllReadyH.cons (o := qLwRp8_15) rfl (fun K hK => ?_) (AllReadyH.cons (o := qLwRp8_12) rfl (fun K hK => ?_) (AllReadyH.cons (o := qLwRp8_13) rfl (fun K hK => ?_) (AllReadyH.cons (o := qLwRp8_14) rfl (fun K hK => ?_) (AllReadyH.nil))))
                             ·go_simp
                              go_wp2_with (go_at_call 26; refine (tb_as H6.out (pcancel_any g.tx _ Hrd9.out ((HS511.out).reads 3 rfl) HU.out)).mono ?_; rintro e w512 ⟨h9, v9, Rv, rfl, hrd2, hin2, hnew2, hb⟩)
                              obtain ⟨av, cv, rfl, _, _⟩ := hrd2.1.shape
                              obtain ⟨bv, dv, rfl, _, _⟩ := hrd2.2.shape
                              have Hrdv := Lib.hid hrd2
                              have HS512 : Hid (Hp w [.cd C, .ob B21 29 (grCells g), .ob B23 25 (tbCells (.slice a9 u.held.length c9) (.slice b9 u.wait.length d9)), .rd R9, .rd Rx, .rd Rv] w512) := (HS511.out).addrd hb Rv hin2 (fun r hr => (hnew2 r hr).elim .inl (fun h => .inr ⟨.rd R9, List.mem_of_getElem? (i := 3) rfl, h⟩))
                              refine hK.out _ _ (⟨(fun j v hv => by rw [Nat.zero_add]; exact (HS512.out).at 2 rfl j hv), (fun j v hv => by rw [Nat.zero_add]; exact (HS512.out).at 1 rfl j hv)⟩) (fun hHeld => ?_)
                              clear hK K hb hin2 hrd2 hnew2
                              try simp only [z0, z1, z2, z3]
                              refine wpAnyH_ready (rs := [13, 14, 15, 16]) (by kernel_rfl) (by simp) ?_
                              refine AllReadyH.cons (o := qLwRp8_16) rfl (fun K hK => ?_) (AllReadyH.cons (o := qLwRp8_12) rfl (fun K hK => ?_) (AllReadyH.cons (o := qLwRp8_13) rfl (fun K hK => ?_) (AllReadyH.cons (o := qLwRp8_14) rfl (fun K hK => ?_) (AllReadyH.nil))))
                              ·go_simp
                               go_wp2_with (go_at_call 22; refine (tb_as H7.out (pdrop_any g.tx g.lock _ Hrd9.out ((HS512.out).reads 3 rfl) HU.out HG.out.lock)).mono ?_; rintro e w513 ⟨h9, v9, Rz, rfl, hrd2, hin2, hnew2, hb⟩)
                               obtain ⟨az, cz, rfl, _, _⟩ := hrd2.1.shape
                               obtain ⟨bz, dz, rfl, _, _⟩ := hrd2.2.shape
                               have Hrdz := Lib.hid hrd2
                               have HS513 : Hid (Hp w [.cd C, .ob B21 29 (grCells g), .ob B23 25 (tbCells (.slice a9 u.held.length c9) (.slice b9 u.wait.length d9)), .rd R9, .rd Rx, .rd Rv, .rd Rz] w513) := (HS512.out).addrd hb Rz hin2 (fun r hr => (hnew2 r hr).elim .inl (fun h => .inr ⟨.rd R9, List.mem_of_getElem? (i := 3) rfl, h⟩))
                               refine hK.out _ _ (⟨(fun j v hv => by rw [Nat.zero_add]; exact (HS513.out).at 2 rfl j hv), (fun j v hv => by rw [Nat.zero_add]; exact (HS513.out).at 1 rfl j hv)⟩) (fun hHeld => ?_)
                               clear hK K hb hin2 hrd2 hnew2
                               try simp only [z0, z1, z2, z3]
                               refine wpAnyH_ready (rs := [14, 15, 16]) (by kernel_rfl) (by simp) ?_
                               refine AllReadyH.cons (o := qLwRp8_12) rfl (fun K hK => ?_) (AllReadyH.cons (o := qLwRp8_13) rfl (fun K hK => ?_) (AllReadyH.cons (o := qLwRp8_14) rfl (fun K hK => ?_) (AllReadyH.nil)))
                               ·rw [if_pos (by rfl)]
                                refine wp_alloc_ob 25 (tbCells (.slice none 0 0) (.slice none 0 0)) rfl alloc_tb ?_
                                have HS514 : Hid (Hp w [.cd C, .ob B21 29 (grCells g), .ob B23 25 (tbCells (.slice a9 u.held.length c9) (.slice b9 u.wait.length d9)), .rd R9, .rd Rx, .rd Rv, .rd Rz, .ob (w513.heap.size) 25 (tbCells (.slice none 0 0) (.slice none 0 0))] (w513.alloc (.cells (tbCells (.slice none 0 0) (.slice none 0 0)).toArray 25))) := (HS513.out).put 25 (tbCells (.slice none 0 0) (.slice none 0 0))
                                refine hK.out _ _ (⟨(fun j v hv => by rw [Nat.zero_add]; exact (HS514.out).at 2 rfl j hv), (fun j v hv => by rw [Nat.zero_add]; exact (HS514.out).at 1 rfl j hv)⟩) (fun hHeld => ?_)
                                clear hK K
                                generalize (w513.alloc (.cells (tbCells (.slice none 0 0) (.slice none 0 0)).toArray 25)) = w514 at *
                                generalize w513.heap.size = B511 at *
                                try simp only [z0, z1, z2, z3]
                                exact N0 w514 B511 ax cx bx dx Rx av cv bv dv Rv az cz bz dz Rz ⟨HS514, Hrdx, Hrdv, Hrdz, hHeld⟩
                               ·rw [if_pos (by rfl)]
                                refine wp_alloc_ob 25 (tbCells (.slice none 0 0) (.slice none 0 0)) rfl alloc_tb ?_
                                have HS514 : Hid (Hp w [.cd C, .ob B21 29 (grCells g), .ob B23 25 (tbCells (.slice a9 u.held.length c9) (.slice b9 u.wait.length d9)), .rd R9, .rd Rx, .rd Rv, .rd Rz, .ob (w513.heap.size) 25 (tbCells (.slice none 0 0) (.slice none 0 0))] (w513.alloc (.cells (tbCells (.slice none 0 0) (.slice none 0 0)).toArray 25))) := (HS513.out).put 25 (tbCells (.slice none 0 0) (.slice none 0 0))
                                refine hK.out _ _ (⟨(fun j v hv => by rw [Nat.zero_add]; exact (HS514.out).at 2 rfl j hv), (fun j v hv => by rw [Nat.zero_add]; exact (HS514.out).at 1 rfl j hv)⟩) (fun hHeld => ?_)
                                clear hK K
                                generalize (w513.alloc (.cells (tbCells (.slice none 0 0) (.slice none 0 0)).toArray 25)) = w514 at *
                                generalize w513.heap.size = B511 at *
                                try simp only [z0, z1, z2, z3]
                                exact N1 w514 B511 ax cx bx dx Rx av cv bv dv Rv az cz bz dz Rz ⟨HS514, Hrdx, Hrdv, Hrdz, hHeld⟩
                               ·rw [if_pos (by rfl)]
                                refine wp_alloc_ob 25 (tbCells (.slice none 0 0) (.slice none 0 0)) rfl alloc_tb ?_
                                have HS514 : Hid (Hp w [.cd C, .ob B21 29 (grCells g), .ob B23 25 (tbCells (.slice a9 u.held.length c9) (.slice b9 u.wait.length d9)), .rd R9, .rd Rx, .rd Rv, .rd Rz, .ob (w513.heap.size) 25 (tbCells (.slice none 0 0) (.slice none 0 0))] (w513.alloc (.cells (tbCells (.slice none 0 0) (.slice none 0 0)).toArray 25))) := (HS513.out).put 25 (tbCells (.slice none 0 0) (.slice none 0 0))
                                refine hK.out _ _ (⟨(fun j v hv => by rw [Nat.zero_add]; exact (HS514.out).at 2 rfl j hv), (fun j v hv => by rw [Nat.zero_add]; exact (HS514.out).at 1 rfl j hv)⟩) (fun hHeld => ?_)
                                clear hK K
                                generalize (w513.alloc (.cells (tbCells (.slice none 0 0) (.slice none 0 0)).toArray 25)) = w514 at *
                                generalize w513.heap.size = B511 at *
                                try simp only [z0, z1, z2, z3]
                                exact N2 w514 B511 ax cx bx dx Rx av cv bv dv Rv az cz bz dz Rz ⟨HS514, Hrdx, Hrdv, Hrdz, hHeld⟩
                              ·rw [if_pos (by rfl)]
                               refine wp_alloc_ob 25 (tbCells (.slice none 0 0) (.slice none 0 0)) rfl alloc_tb ?_
                               have HS513 : Hid (Hp w [.cd C, .ob B21 29 (grCells g), .ob B23 25 (tbCells (.slice a9 u.held.length c9) (.slice b9 u.wait.length d9)), .rd R9, .rd Rx, .rd Rv, .ob (w512.heap.size) 25 (tbCells (.slice none 0 0) (.slice none 0 0))] (w512.alloc (.cells (tbCells (.slice none 0 0) (.slice none 0 0)).toArray 25))) := (HS512.out).put 25 (tbCells (.slice none 0 0) (.slice none 0 0))
                               refine hK.out _ _ (⟨(fun j v hv => by rw [Nat.zero_add]; exact (HS513.out).at 2 rfl j hv), (fun j v hv => by rw [Nat.zero_add]; exact (HS513.out).at 1 rfl j hv)⟩) (fun hHeld => ?_)
                               clear hK K
                               generalize (w512.alloc (.cells (tbCells (.slice none 0 0) (.slice none 0 0)).toArray 25)) = w513 at *
                               generalize w512.heap.size = B511 at *
                               try simp only [z0, z1, z2, z3]
                               exact N3 w513 B511 ax cx bx dx Rx av cv bv dv Rv ⟨HS513, Hrdx, Hrdv, hHeld⟩
                              ·rw [if_pos (by rfl)]
                               refine wp_alloc_ob 25 (tbCells (.slice none 0 0) (.slice none 0 0)) rfl alloc_tb ?_
                               have HS513 : Hid (Hp w [.cd C, .ob B21 29 (grCells g), .ob B23 25 (tbCells (.slice a9 u.held.length c9) (.slice b9 u.wait.length d9)), .rd R9, .rd Rx, .rd Rv, .ob (w512.heap.size) 25 (tbCells (.slice none 0 0) (.slice none 0 0))] (w512.alloc (.cells (tbCells (.slice none 0 0) (.slice none 0 0)).toArray 25))) := (HS512.out).put 25 (tbCells (.slice none 0 0) (.slice none 0 0))
                               refine hK.out _ _ (⟨(fun j v hv => by rw [Nat.zero_add]; exact (HS513.out).at 2 rfl j hv), (fun j v hv => by rw [Nat.zero_add]; exact (HS513.out).at 1 rfl j hv)⟩) (fun hHeld => ?_)
                               clear hK K
                               generalize (w512.alloc (.cells (tbCells (.slice none 0 0) (.slice none 0 0)).toArray 25)) = w513 at *
                               generalize w512.heap.size = B511 at *
                               try simp only [z0, z1, z2, z3]
                               exact N4 w513 B511 ax cx bx dx Rx av cv bv dv Rv ⟨HS513, Hrdx, Hrdv, hHeld⟩
                              ·rw [if_pos (by rfl)]
                               refine wp_alloc_ob 25 (tbCells (.slice none 0 0) (.slice none 0 0)) rfl alloc_tb ?_
                               have HS513 : Hid (Hp w [.cd C, .ob B21 29 (grCells g), .ob B23 25 (tbCells (.slice a9 u.held.length c9) (.slice b9 u.wait.length d9)), .rd R9, .rd Rx, .rd Rv, .ob (w512.heap.size) 25 (tbCells (.slice none 0 0) (.slice none 0 0))] (w512.alloc (.cells (tbCells (.slice none 0 0) (.slice none 0 0)).toArray 25))) := (HS512.out).put 25 (tbCells (.slice none 0 0) (.slice none 0 0))
                               refine hK.out _ _ (⟨(fun j v hv => by rw [Nat.zero_add]; exact (HS513.out).at 2 rfl j hv), (fun j v hv => by rw [Nat.zero_add]; exact (HS513.out).at 1 rfl j hv)⟩) (fun hHeld => ?_)
                               clear hK K
                               generalize (w512.alloc (.cells (tbCells (.slice none 0 0) (.slice none 0 0)).toArray 25)) = w513 at *
                               generalize w512.heap.size = B511 at *
                               try simp only [z0, z1, z2, z3]
                               exact N5 w513 B511 ax cx bx dx Rx av cv bv dv Rv ⟨HS513, Hrdx, Hrdv, hHeld⟩
                             ·rw [if_pos (by rfl)]
                              refine wp_alloc_ob 25 (tbCells (.slice none 0 0) (.slice none 0 0)) rfl alloc_tb ?_
                              have HS512 : Hid (Hp w [.cd C, .ob B21 29 (grCells g), .ob B23 25 (tbCells (.slice a9 u.held.length c9) (.slice b9 u.wait.length d9)), .rd R9, .rd Rx, .ob (w511.heap.size) 25 (tbCells (.slice none 0 0) (.slice none 0 0))] (w511.alloc (.cells (tbCells (.slice none 0 0) (.slice none 0 0)).toArray 25))) := (HS511.out).put 25 (tbCells (.slice none 0 0) (.slice none 0 0))
                              refine hK.out _ _ (⟨(fun j v hv => by rw [Nat.zero_add]; exact (HS512.out).at 2 rfl j hv), (fun j v hv => by rw [Nat.zero_add]; exact (HS512.out).at 1 rfl j hv)⟩) (fun hHeld => ?_)
                              clear hK K
                              generalize (w511.alloc (.cells (tbCells (.slice none 0 0) (.slice none 0 0)).toArray 25)) = w512 at *
                              generalize w511.heap.size = B511 at *
                              try simp only [z0, z1, z2, z3]
                              exact N6 w512 B511 ax cx bx dx Rx ⟨HS512, Hrdx, hHeld⟩
                             ·rw [if_pos (by rfl)]
                              refine wp_alloc_ob 25 (tbCells (.slice none 0 0) (.slice none 0 0)) rfl alloc_tb ?_
                              have HS512 : Hid (Hp w [.cd C, .ob B21 29 (grCells g), .ob B23 25 (tbCells (.slice a9 u.held.length c9) (.slice b9 u.wait.length d9)), .rd R9, .rd Rx, .ob (w511.heap.size) 25 (tbCells (.slice none 0 0) (.slice none 0 0))] (w511.alloc (.cells (tbCells (.slice none 0 0) (.slice none 0 0)).toArray 25))) := (HS511.out).put 25 (tbCells (.slice none 0 0) (.slice none 0 0))
                              refine hK.out _ _ (⟨(fun j v hv => by rw [Nat.zero_add]; exact (HS512.out).at 2 rfl j hv), (fun j v hv => by rw [Nat.zero_add]; exact (HS512.out).at 1 rfl j hv)⟩) (fun hHeld => ?_)
                              clear hK K
                              generalize (w511.alloc (.cells (tbCells (.slice none 0 0) (.slice none 0 0)).toArray 25)) = w512 at *
                              generalize w511.heap.size = B511 at *
                              try simp only [z0, z1, z2, z3]
                              exact N7 w512 B511 ax cx bx dx Rx ⟨HS512, Hrdx, hHeld⟩
                             ·rw [if_pos (by rfl)]
                              refine wp_alloc_ob 25 (tbCells (.slice none 0 0) (.slice none 0 0)) rfl alloc_tb ?_
                              have HS512 : Hid (Hp w [.cd C, .ob B21 29 (grCells g), .ob B23 25 (tbCells (.slice a9 u.held.length c9) (.slice b9 u.wait.length d9)), .rd R9, .rd Rx, .ob (w511.heap.size) 25 (tbCells (.slice none 0 0) (.slice none 0 0))] (w511.alloc (.cells (tbCells (.slice none 0 0) (.slice none 0 0)).toArray 25))) := (HS511.out).put 25 (tbCells (.slice none 0 0) (.slice none 0 0))
                              refine hK.out _ _ (⟨(fun j v hv => by rw [Nat.zero_add]; exact (HS512.out).at 2 rfl j hv), (fun j v hv => by rw [Nat.zero_add]; exact (HS512.out).at 1 rfl j hv)⟩) (fun hHeld => ?_)
                              clear hK K
                              generalize (w511.alloc (.cells (tbCells (.slice none 0 0) (.slice none 0 0)).toArray 25)) = w512 at *
                              generalize w511.heap.size = B511 at *
                              try simp only [z0, z1, z2, z3]
                              exact N8 w512 B511 ax cx bx dx Rx ⟨HS512, Hrdx, hHeld⟩
                            ·rw [if_pos (by rfl)]
                             refine wp_alloc_ob 25 (tbCells (.slice none 0 0) (.slice none 0 0)) rfl alloc_tb ?_
                             have HS511 : Hid (Hp w [.cd C, .ob B21 29 (grCells g), .ob B23 25 (tbCells (.slice a9 u.held.length c9) (.slice b9 u.wait.length d9)), .rd R9, .ob (w500.drew.heap.size) 25 (tbCells (.slice none 0 0) (.slice none 0 0))] (w500.drew.alloc (.cells (tbCells (.slice none 0 0) (.slice none 0 0)).toArray 25))) := ((HY.out).drew).put 25 (tbCells (.slice none 0 0) (.slice none 0 0))
                             refine hK.out _ _ (⟨(fun j v hv => by rw [Nat.zero_add]; exact (HS511.out).at 2 rfl j hv), (fun j v hv => by rw [Nat.zero_add]; exact (HS511.out).at 1 rfl j hv)⟩) (fun hHeld => ?_)
                             clear hK K
                             generalize (w500.drew.alloc (.cells (tbCells (.slice none 0 0) (.slice none 0 0)).toArray 25)) = w511 at *
                             generalize w500.drew.heap.size = B511 at *
                             try simp only [z0, z1, z2, z3]
                             refine wpAnyH_ready (rs := [3, 15, 16]) (by kernel_rfl) (by simp) ?_
                             refine AllReadyH.cons (o := qLwRp8_11) rfl (fun K hK => ?_) (AllReadyH.cons (o := qLwRp8_13) rfl (fun K hK => ?_) (AllReadyH.cons (o := qLwRp8_14) rfl (fun K hK => ?_) (AllReadyH.nil)))
                             ·go_simp
                              go_wp2_with (go_at_call 28; refine (tb_as H5.out (prelease_any g.tx _ Hrd9.out ((HS511.out).reads 3 rfl) HU.out)).mono ?_; rintro e w512 ⟨h9, v9, Rx, rfl, hrd2, hin2, hnew2, hb⟩)
                              obtain ⟨ax, cx, rfl, _, _⟩ := hrd2.1.shape
                              obtain ⟨bx, dx, rfl, _, _⟩ := hrd2.2.shape
                              have Hrdx := Lib.hid hrd2
                              have HS512 : Hid (Hp w [.cd C, .ob B21 29 (grCells g), .ob B23 25 (tbCells (.slice a9 u.held.length c9) (.slice b9 u.wait.length d9)), .rd R9, .ob B511 25 (tbCells (.slice none 0 0) (.slice none 0 0)), .rd Rx] w512) := (HS511.out).addrd hb Rx hin2 (fun r hr => (hnew2 r hr).elim .inl (fun h => .inr ⟨.rd R9, List.mem_of_getElem? (i := 3) rfl, h⟩))
                              refine hK.out _ _ (⟨(fun j v hv => by rw [Nat.zero_add]; exact (HS512.out).at 2 rfl j hv), (fun j v hv => by rw [Nat.zero_add]; exact (HS512.out).at 1 rfl j hv)⟩) (fun hHeld => ?_)
                              clear hK K hb hin2 hrd2 hnew2
                              try simp only [z0, z1, z2, z3]
                              have HS513 : Hid (Hp w [.cd C, .ob B21 29 (grCells g), .ob B23 25 (tbCells (.slice a9 u.held.length c9) (.slice b9 u.wait.length d9)), .rd R9, .rd Rx, .ob B511 25 (tbCells (.slice none 0 0) (.slice none 0 0))] w512) := HS512.out.pull [0, 1, 2, 3, 5, 4] rfl (pull_nd HS512.out.nd [0, 1, 2, 3, 5, 4] rfl (by decide))
                              clear HS512
                              exact N6 w512 B511 ax cx bx dx Rx ⟨HS513, Hrdx, hHeld⟩
                             ·rw [if_pos (by rfl)]
                              refine wp_alloc_ob 25 (tbCells (.slice none 0 0) (.slice none 0 0)) rfl alloc_tb ?_
                              have HS512 : Hid (Hp w [.cd C, .ob B21 29 (grCells g), .ob B23 25 (tbCells (.slice a9 u.held.length c9) (.slice b9 u.wait.length d9)), .rd R9, .ob B511 25 (tbCells (.slice none 0 0) (.slice none 0 0)), .ob (w511.heap.size) 25 (tbCells (.slice none 0 0) (.slice none 0 0))] (w511.alloc (.cells (tbCells (.slice none 0 0) (.slice none 0 0)).toArray 25))) := (HS511.out).put 25 (tbCells (.slice none 0 0) (.slice none 0 0))
                              refine hK.out _ _ (⟨(fun j v hv => by rw [Nat.zero_add]; exact (HS512.out).at 2 rfl j hv), (fun j v hv => by rw [Nat.zero_add]; exact (HS512.out).at 1 rfl j hv)⟩) (fun hHeld => ?_)
                              clear hK K
                              generalize (w511.alloc (.cells (tbCells (.slice none 0 0) (.slice none 0 0)).toArray 25)) = w512 at *
                              generalize w511.heap.size = B512 at *
                              try simp only [z0, z1, z2, z3]
                              exact N9 w512 B511 B512 ⟨HS512, hHeld⟩
                             ·rw [if_pos (by rfl)]
                              refine wp_alloc_ob 25 (tbCells (.slice none 0 0) (.slice none 0 0)) rfl alloc_tb ?_
                              have HS512 : Hid (Hp w [.cd C, .ob B21 29 (grCells g), .ob B23 25 (tbCells (.slice a9 u.held.length c9) (.slice b9 u.wait.length d9)), .rd R9, .ob B511 25 (tbCells (.slice none 0 0) (.slice none 0 0)), .ob (w511.heap.size) 25 (tbCells (.slice none 0 0) (.slice none 0 0))] (w511.alloc (.cells (tbCells (.slice none 0 0) (.slice none 0 0)).toArray 25))) := (HS511.out).put 25 (tbCells (.slice none 0 0) (.slice none 0 0))
                              refine hK.out _ _ (⟨(fun j v hv => by rw [Nat.zero_add]; exact (HS512.out).at 2 rfl j hv), (fun j v hv => by rw [Nat.zero_add]; exact (HS512.out).at 1 rfl j hv)⟩) (fun hHeld => ?_)
                              clear hK K
                              generalize (w511.alloc (.cells (tbCells (.slice none 0 0) (.slice none 0 0)).toArray 25)) = w512 at *
                              generalize w511.heap.size = B512 at *
                              try simp only [z0, z1, z2, z3]
                              exact N10 w512 B511 B512 ⟨HS512, hHeld⟩
                            ·rw [if_pos (by rfl)]
                             refine wp_alloc_ob 25 (tbCells (.slice none 0 0) (.slice none 0 0)) rfl alloc_tb ?_
                             have HS511 : Hid (Hp w [.cd C, .ob B21 29 (grCells g), .ob B23 25 (tbCells (.slice a9 u.held.length c9) (.slice b9 u.wait.length d9)), .rd R9, .ob (w500.drew.heap.size) 25 (tbCells (.slice none 0 0) (.slice none 0 0))] (w500.drew.alloc (.cells (tbCells (.slice none 0 0) (.slice none 0 0)).toArray 25))) := ((HY.out).drew).put 25 (tbCells (.slice none 0 0) (.slice none 0 0))
                             refine hK.out _ _ (⟨(fun j v hv => by rw [Nat.zero_add]; exact (HS511.out).at 2 rfl j hv), (fun j v hv => by rw [Nat.zero_add]; exact (HS511.out).at 1 rfl j hv)⟩) (fun hHeld => ?_)
                             clear hK K
                             generalize (w500.drew.alloc (.cells (tbCells (.slice none 0 0) (.slice none 0 0)).toArray 25)) = w511 at *
                             generalize w500.drew.heap.size = B511 at *
                             try simp only [z0, z1, z2, z3]
                             refine wpAnyH_ready (rs := [3, 14, 16]) (by kernel_rfl) (by simp) ?_
                             refine AllReadyH.cons (o := qLwRp8_11) rfl (fun K hK => ?_) (AllReadyH.cons (o := qLwRp8_12) rfl (fun K hK => ?_) (AllReadyH.cons (o := qLwRp8_14) rfl (fun K hK => ?_) (AllReadyH.nil)))
                             ·go_simp
                              go_wp2_with (go_at_call 28; refine (tb_as H5.out (prelease_any g.tx _ Hrd9.out ((HS511.out).reads 3 rfl) HU.out)).mono ?_; rintro e w512 ⟨h9, v9, Rx, rfl, hrd2, hin2, hnew2, hb⟩)
                              obtain ⟨ax, cx, rfl, _, _⟩ := hrd2.1.shape
                              obtain ⟨bx, dx, rfl, _, _⟩ := hrd2.2.shape
                              have Hrdx := Lib.hid hrd2
                              have HS512 : Hid (Hp w [.cd C, .ob B21 29 (grCells g), .ob B23 25 (tbCells (.slice a9 u.held.length c9) (.slice b9 u.wait.length d9)), .rd R9, .ob B511 25 (tbCells (.slice none 0 0) (.slice none 0 0)), .rd Rx] w512) := (HS511.out).addrd hb Rx hin2 (fun r hr => (hnew2 r hr).elim .inl (fun h => .inr ⟨.rd R9, List.mem_of_getElem? (i := 3) rfl, h⟩))
                              refine hK.out _ _ (⟨(fun j v hv => by rw [Nat.zero_add]; exact (HS512.out).at 2 rfl j hv), (fun j v hv => by rw [Nat.zero_add]; exact (HS512.out).at 1 rfl j hv)⟩) (fun hHeld => ?_)
                              clear hK K hb hin2 hrd2 hnew2
                              try simp only [z0, z1, z2, z3]
                              have HS513 : Hid (Hp w [.cd C, .ob B21 29 (grCells g), .ob B23 25 (tbCells (.slice a9 u.held.length c9) (.slice b9 u.wait.length d9)), .rd R9, .rd Rx, .ob B511 25 (tbCells (.slice none 0 0) (.slice none 0 0))] w512) := HS512.out.pull [0, 1, 2, 3, 5, 4] rfl (pull_nd HS512.out.nd [0, 1, 2, 3, 5, 4] rfl (by decide))
                              clear HS512
                              exact N7 w512 B511 ax cx bx dx Rx ⟨HS513, Hrdx, hHeld⟩
                             ·rw [if_pos (by rfl)]
                              refine wp_alloc_ob 25 (tbCells (.slice none 0 0) (.slice none 0 0)) rfl alloc_tb ?_
                              have HS512 : Hid (Hp w [.cd C, .ob B21 29 (grCells g), .ob B23 25 (tbCells (.slice a9 u.held.length c9) (.slice b9 u.wait.length d9)), .rd R9, .ob B511 25 (tbCells (.slice none 0 0) (.slice none 0 0)), .ob (w511.heap.size) 25 (tbCells (.slice none 0 0) (.slice none 0 0))] (w511.alloc (.cells (tbCells (.slice none 0 0) (.slice none 0 0)).toArray 25))) := (HS511.out).put 25 (tbCells (.slice none 0 0) (.slice none 0 0))
                              refine hK.out _ _ (⟨(fun j v hv => by rw [Nat.zero_add]; exact (HS512.out).at 2 rfl j hv), (fun j v hv => by rw [Nat.zero_add]; exact (HS512.out).at 1 rfl j hv)⟩) (fun hHeld => ?_)
                              clear hK K
                              generalize (w511.alloc (.cells (tbCells (.slice none 0 0) (.slice none 0 0)).toArray 25)) = w512 at *
                              generalize w511.heap.size = B512 at *
                              try simp only [z0, z1, z2, z3]
                              have HS513 : Hid (Hp w [.cd C, .ob B21 29 (grCells g), .ob B23 25 (tbCells (.slice a9 u.held.length c9) (.slice b9 u.wait.length d9)), .rd R9, .ob B512 25 (tbCells (.slice none 0 0) (.slice none 0 0)), .ob B511 25 (tbCells (.slice none 0 0) (.slice none 0 0))] w512) := HS512.out.pull [0, 1, 2, 3, 5, 4] rfl (pull_nd HS512.out.nd [0, 1, 2, 3, 5, 4] rfl (by decide))
                              clear HS512
                              exact N9 w512 B512 B511 ⟨HS513, hHeld⟩
                             ·rw [if_pos (by rfl)]
                              refine wp_alloc_ob 25 (tbCells (.slice none 0 0) (.slice none 0 0)) rfl alloc_tb ?_
                              have HS512 : Hid (Hp w [.cd C, .ob B21 29 (grCells g), .ob B23 25 (tbCells (.slice a9 u.held.length c9) (.slice b9 u.wait.length d9)), .rd R9, .ob B511 25 (tbCells (.slice none 0 0) (.slice none 0 0)), .ob (w511.heap.size) 25 (tbCells (.slice none 0 0) (.slice none 0 0))] (w511.alloc (.cells (tbCells (.slice none 0 0) (.slice none 0 0)).toArray 25))) := (HS511.out).put 25 (tbCells (.slice none 0 0) (.slice none 0 0))
                              refine hK.out _ _ (⟨(fun j v hv => by rw [Nat.zero_add]; exact (HS512.out).at 2 rfl j hv), (fun j v hv => by rw [Nat.zero_add]; exact (HS512.out).at 1 rfl j hv)⟩) (fun hHeld => ?_)
                              clear hK K
                              generalize (w511.alloc (.cells (tbCells (.slice none 0 0) (.slice none 0 0)).toArray 25)) = w512 at *
                              generalize w511.heap.size = B512 at *
                              try simp only [z0, z1, z2, z3]
                              exact N11 w512 B511 B512 ⟨HS512, hHeld⟩
                            ·rw [if_pos (by rfl)]
                             refine wp_alloc_ob 25 (tbCells (.slice none 0 0) (.slice none 0 0)) rfl alloc_tb ?_
                             have HS511 : Hid (Hp w [.cd C, .ob B21 29 (grCells g), .ob B23 25 (tbCells (.slice a9 u.held.length c9) (.slice b9 u.wait.length d9)), .rd R9, .ob (w500.drew.heap.size) 25 (tbCells (.slice none 0 0) (.slice none 0 0))] (w500.drew.alloc (.cells (tbCells (.slice none 0 0) (.slice none 0 0)).toArray 25))) := ((HY.out).drew).put 25 (tbCells (.slice none 0 0) (.slice none 0 0))
                             refine hK.out _ _ (⟨(fun j v hv => by rw [Nat.zero_add]; exact (HS511.out).at 2 rfl j hv), (fun j v hv => by rw [Nat.zero_add]; exact (HS511.out).at 1 rfl j hv)⟩) (fun hHeld => ?_)
                             clear hK K
                             generalize (w500.drew.alloc (.cells (tbCells (.slice none 0 0) (.slice none 0 0)).toArray 25)) = w511 at *
                             generalize w500.drew.heap.size = B511 at *
                             try simp only [z0, z1, z2, z3]
                             refine wpAnyH_ready (rs := [3, 14, 15]) (by kernel_rfl) (by simp) ?_
                             refine AllReadyH.cons (o := qLwRp8_11) rfl (fun K hK => ?_) (AllReadyH.cons (o := qLwRp8_12) rfl (fun K hK => ?_) (AllReadyH.cons (o := qLwRp8_13) rfl (fun K hK => ?_) (AllReadyH.nil)))
                             ·go_simp
                              go_wp2_with (go_at_call 28; refine (tb_as H5.out (prelease_any g.tx _ Hrd9.out ((HS511.out).reads 3 rfl) HU.out)).mono ?_; rintro e w512 ⟨h9, v9, Rx, rfl, hrd2, hin2, hnew2, hb⟩)
                              obtain ⟨ax, cx, rfl, _, _⟩ := hrd2.1.shape
                              obtain ⟨bx, dx, rfl, _, _⟩ := hrd2.2.shape
                              have Hrdx := Lib.hid hrd2
                              have HS512 : Hid (Hp w [.cd C, .ob B21 29 (grCells g), .ob B23 25 (tbCells (.slice a9 u.held.length c9) (.slice b9 u.wait.length d9)), .rd R9, .ob B511 25 (tbCells (.slice none 0 0) (.slice none 0 0)), .rd Rx] w512) := (HS511.out).addrd hb Rx hin2 (fun r hr => (hnew2 r hr).elim .inl (fun h => .inr ⟨.rd R9, List.mem_of_getElem? (i := 3) rfl, h⟩))
                              refine hK.out _ _ (⟨(fun j v hv => by rw [Nat.zero_add]; exact (HS512.out).at 2 rfl j hv), (fun j v hv => by rw [Nat.zero_add]; exact (HS512.out).at 1 rfl j hv)⟩) (fun hHeld => ?_)
                              clear hK K hb hin2 hrd2 hnew2
                              try simp only [z0, z1, z2, z3]
                              have HS513 : Hid (Hp w [.cd C, .ob B21 29 (grCells g), .ob B23 25 (tbCells (.slice a9 u.held.length c9) (.slice b9 u.wait.length d9)), .rd R9, .rd Rx, .ob B511 25 (tbCells (.slice none 0 0) (.slice none 0 0))] w512) := HS512.out.pull [0, 1, 2, 3, 5, 4] rfl (pull_nd HS512.out.nd [0, 1, 2, 3, 5, 4] rfl (by decide))
                              clear HS512
                              exact N8 w512 B511 ax cx bx dx Rx ⟨HS513, Hrdx, hHeld⟩
                             ·rw [if_pos (by rfl)]
                              refine wp_alloc_ob 25 (tbCells (.slice none 0 0) (.slice none 0 0)) rfl alloc_tb ?_
                              have HS512 : Hid (Hp w [.cd C, .ob B21 29 (grCells g), .ob B23 25 (tbCells (.slice a9 u.held.length c9) (.slice b9 u.wait.length d9)), .rd R9, .ob B511 25 (tbCells (.slice none 0 0) (.slice none 0 0)), .ob (w511.heap.size) 25 (tbCells (.slice none 0 0) (.slice none 0 0))] (w511.alloc (.cells (tbCells (.slice none 0 0) (.slice none 0 0)).toArray 25))) := (HS511.out).put 25 (tbCells (.slice none 0 0) (.slice none 0 0))
                              refine hK.out _ _ (⟨(fun j v hv => by rw [Nat.zero_add]; exact (HS512.out).at 2 rfl j hv), (fun j v hv => by rw [Nat.zero_add]; exact (HS512.out).at 1 rfl j hv)⟩) (fun hHeld => ?_)
                              clear hK K
                              generalize (w511.alloc (.cells (tbCells (.slice none 0 0) (.slice none 0 0)).toArray 25)) = w512 at *
                              generalize w511.heap.size = B512 at *
                              try simp only [z0, z1, z2, z3]
                              have HS513 : Hid (Hp w [.cd C, .ob B21 29 (grCells g), .ob B23 25 (tbCells (.slice a9 u.held.length c9) (.slice b9 u.wait.length d9)), .rd R9, .ob B512 25 (tbCells (.slice none 0 0) (.slice none 0 0)), .ob B511 25 (tbCells (.slice none 0 0) (.slice none 0 0))] w512) := HS512.out.pull [0, 1, 2, 3, 5, 4] rfl (pull_nd HS512.out.nd [0, 1, 2, 3, 5, 4] rfl (by decide))
                              clear HS512
                              exact N10 w512 B512 B511 ⟨HS513, hHeld⟩
                             ·rw [if_pos (by rfl)]
                              refine wp_alloc_ob 25 (tbCells (.slice none 0 0) (.slice none 0 0)) rfl alloc_tb ?_
                              have HS512 : Hid (Hp w [.cd C, .ob B21 29 (grCells g), .ob B23 25 (tbCells (.slice a9 u.held.length c9) (.slice b9 u.wait.length d9)), .rd R9, .ob B511 25 (tbCells (.slice none 0 0) (.slice none 0 0)), .ob (w511.heap.size) 25 (tbCells (.slice none 0 0) (.slice none 0 0))] (w511.alloc (.cells (tbCells (.slice none 0 0) (.slice none 0 0)).toArray 25))) := (HS511.out).put 25 (tbCells (.slice none 0 0) (.slice none 0 0))
                              refine hK.out _ _ (⟨(fun j v hv => by rw [Nat.zero_add]; exact (HS512.out).at 2 rfl j hv), (fun j v hv => by rw [Nat.zero_add]; exact (HS512.out).at 1 rfl j hv)⟩) (fun hHeld => ?_)
                              clear hK K
                              generalize (w511.alloc (.cells (tbCells (.slice none 0 0) (.slice none 0 0)).toArray 25)) = w512 at *
                              generalize w511.heap.size = B512 at *
                              try simp only [z0, z1, z2, z3]
                              have HS513 : Hid (Hp w [.cd C, .ob B21 29 (grCells g), .ob B23 25 (tbCells (.slice a9 u.held.length c9) (.slice b9 u.wait.length d9)), .rd R9, .ob B512 25 (tbCells (.slice none 0 0) (.slice none 0 0)), .ob B511 25 (tbCells (.slice none 0 0) (.slice none 0 0))] w512) := HS512.out.pull [0, 1, 2, 3, 5, 4] rfl (pull_nd HS512.out.nd [0, 1, 2, 3, 5, 4] rfl (by decide))
                              clear HS512
                              exact N11 w512 B512 B511 ⟨HS513, hHeld⟩
                           case node =>
                            rintro wd X14 ax cx bx dx Rx ⟨HSn, Hrdx, hHeld⟩
                            refine wpAnyH_ready (rs := [7, 15, 16]) (by kernel_rfl) (by simp) ?_
                            refine AllReadyH.cons (o := qLwRp8_15) rfl (fun K hK => ?_) (AllReadyH.cons (o := qLwRp8_13) rfl (fun K hK => ?_) (AllReadyH.cons (o := qLwRp8_14) rfl (fun K hK => ?_) (AllReadyH.nil)))
                            ·go_simp
                             go_wp2_with (go_at_call 26; refine (tb_as H6.out (pcancel_any g.tx _ Hrd9.out ((HSn.out).reads 3 rfl) HU.out)).mono ?_; rintro e w513 ⟨h9, v9, Rv, rfl, hrd2, hin2, hnew2, hb⟩)
                             obtain ⟨av, cv, rfl, _, _⟩ := hrd2.1.shape
                             obtain ⟨bv, dv, rfl, _, _⟩ := hrd2.2.shape
                             have Hrdv := Lib.hid hrd2
                             have HS513 : Hid (Hp w [.cd C, .ob B21 29 (grCells g), .ob B23 25 (tbCells (.slice a9 u.held.length c9) (.slice b9 u.wait.length d9)), .rd R9, .rd Rx, .ob X14 25 (tbCells (.slice none 0 0) (.slice none 0 0)), .rd Rv] w513) := (HSn.out).addrd hb Rv hin2 (fun r hr => (hnew2 r hr).elim .inl (fun h => .inr ⟨.rd R9, List.mem_of_getElem? (i := 3) rfl, h⟩))
                             refine hK.out _ _ (⟨(fun j v hv => by rw [Nat.zero_add]; exact (HS513.out).at 2 rfl j hv), (fun j v hv => by rw [Nat.zero_add]; exact (HS513.out).at 1 rfl j hv)⟩) (fun hHeld => ?_)
                             clear hK K hb hin2 hrd2 hnew2
                             try simp only [z0, z1, z2, z3]
                             have HS514 : Hid (Hp w [.cd C, .ob B21 29 (grCells g), .ob B23 25 (tbCells (.slice a9 u.held.length c9) (.slice b9 u.wait.length d9)), .rd R9, .rd Rx, .rd Rv, .ob X14 25 (tbCells (.slice none 0 0) (.slice none 0 0))] w513) := HS513.out.pull [0, 1, 2, 3, 4, 6, 5] rfl (pull_nd HS513.out.nd [0, 1, 2, 3, 4, 6, 5] rfl (by decide))
                             clear HS513
                             exact N3 w513 X14 ax cx bx dx Rx av cv bv dv Rv ⟨HS514, Hrdx, Hrdv, hHeld⟩
                            ·rw [if_pos (by rfl)]
                             refine wp_alloc_ob 25 (tbCells (.slice none 0 0) (.slice none 0 0)) rfl alloc_tb ?_
                             have HS513 : Hid (Hp w [.cd C, .ob B21 29 (grCells g), .ob B23 25 (tbCells (.slice a9 u.held.length c9) (.slice b9 u.wait.length d9)), .rd R9, .rd Rx, .ob X14 25 (tbCells (.slice none 0 0) (.slice none 0 0)), .ob (wd.heap.size) 25 (tbCells (.slice none 0 0) (.slice none 0 0))] (wd.alloc (.cells (tbCells (.slice none 0 0) (.slice none 0 0)).toArray 25))) := (HSn.out).put 25 (tbCells (.slice none 0 0) (.slice none 0 0))
                             refine hK.out _ _ (⟨(fun j v hv => by rw [Nat.zero_add]; exact (HS513.out).at 2 rfl j hv), (fun j v hv => by rw [Nat.zero_add]; exact (HS513.out).at 1 rfl j hv)⟩) (fun hHeld => ?_)
                             clear hK K
                             generalize (wd.alloc (.cells (tbCells (.slice none 0 0) (.slice none 0 0)).toArray 25)) = w513 at *
                             generalize wd.heap.size = B512 at *
                             try simp only [z0, z1, z2, z3]
                             exact N12 w513 X14 B512 ax cx bx dx Rx ⟨HS513, Hrdx, hHeld⟩
                            ·rw [if_pos (by rfl)]
                             refine wp_alloc_ob 25 (tbCells (.slice none 0 0) (.slice none 0 0)) rfl alloc_tb ?_
                             have HS513 : Hid (Hp w [.cd C, .ob B21 29 (grCells g), .ob B23 25 (tbCells (.slice a9 u.held.length c9) (.slice b9 u.wait.length d9)), .rd R9, .rd Rx, .ob X14 25 (tbCells (.slice none 0 0) (.slice none 0 0)), .ob (wd.heap.size) 25 (tbCells (.slice none 0 0) (.slice none 0 0))] (wd.alloc (.cells (tbCells (.slice none 0 0) (.slice none 0 0)).toArray 25))) := (HSn.out).put 25 (tbCells (.slice none 0 0) (.slice none 0 0))
                             refine hK.out _ _ (⟨(fun j v hv => by rw [Nat.zero_add]; exact (HS513.out).at 2 rfl j hv), (fun j v hv => by rw [Nat.zero_add]; exact (HS513.out).at 1 rfl j hv)⟩) (fun hHeld => ?_)
                             clear hK K
                             generalize (wd.alloc (.cells (tbCells (.slice none 0 0) (.slice none 0 0)).toArray 25)) = w513 at *
                             generalize wd.heap.size = B512 at *
                             try simp only [z0, z1, z2, z3]
                             exact N13 w513 X14 B512 ax cx bx dx Rx ⟨HS513, Hrdx, hHeld⟩
                          case node =>
                           rintro wd X15 ax cx bx dx Rx ⟨HSn, Hrdx, hHeld⟩
                           refine wpAnyH_ready (rs := [7, 14, 16]) (by kernel_rfl) (by simp) ?_
                           refine AllReadyH.cons (o := qLwRp8_15) rfl (fun K hK => ?_) (AllReadyH.cons (o := qLwRp8_12) rfl (fun K hK => ?_) (AllReadyH.cons (o := qLwRp8_14) rfl (fun K hK => ?_) (AllReadyH.nil)))
                           ·go_simp
                            go_wp2_with (go_at_call 26; refine (tb_as H6.out (pcancel_any g.tx _ Hrd9.out ((HSn.out).reads 3 rfl) HU.out)).mono ?_; rintro e w513 ⟨h9, v9, Rv, rfl, hrd2, hin2, hnew2, hb⟩)
                            obtain ⟨av, cv, rfl, _, _⟩ := hrd2.1.shape
                            obtain ⟨bv, dv, rfl, _, _⟩ := hrd2.2.shape
                            have Hrdv := Lib.hid hrd2
                            have HS513 : Hid (Hp w [.cd C, .ob B21 29 (grCells g), .ob B23 25 (tbCells (.slice a9 u.held.length c9) (.slice b9 u.wait.length d9)), .rd R9, .rd Rx, .ob X15 25 (tbCells (.slice none 0 0) (.slice none 0 0)), .rd Rv] w513) := (HSn.out).addrd hb Rv hin2 (fun r hr => (hnew2 r hr).elim .inl (fun h => .inr ⟨.rd R9, List.mem_of_getElem? (i := 3) rfl, h⟩))
                            refine hK.out _ _ (⟨(fun j v hv => by rw [Nat.zero_add]; exact (HS513.out).at 2 rfl j hv), (fun j v hv => by rw [Nat.zero_add]; exact (HS513.out).at 1 rfl j hv)⟩) (fun hHeld => ?_)
                            clear hK K hb hin2 hrd2 hnew2
                            try simp only [z0, z1, z2, z3]
                            have HS514 : Hid (Hp w [.cd C, .ob B21 29 (grCells g), .ob B23 25 (tbCells (.slice a9 u.held.length c9) (.slice b9 u.wait.length d9)), .rd R9, .rd Rx, .rd Rv, .ob X15 25 (tbCells (.slice none 0 0) (.slice none 0 0))] w513) := HS513.out.pull [0, 1, 2, 3, 4, 6, 5] rfl (pull_nd HS513.out.nd [0, 1, 2, 3, 4, 6, 5] rfl (by decide))
                            clear HS513
                            exact N4 w513 X15 ax cx bx dx Rx av cv bv dv Rv ⟨HS514, Hrdx, Hrdv, hHeld⟩
                           ·rw [if_pos (by rfl)]
                            refine wp_alloc_ob 25 (tbCells (.slice none 0 0) (.slice none 0 0)) rfl alloc_tb ?_
                            have HS513 : Hid (Hp w [.cd C, .ob B21 29 (grCells g), .ob B23 25 (tbCells (.slice a9 u.held.length c9) (.slice b9 u.wait.length d9)), .rd R9, .rd Rx, .ob X15 25 (tbCells (.slice none 0 0) (.slice none 0 0)), .ob (wd.heap.size) 25 (tbCells (.slice none 0 0) (.slice none 0 0))] (wd.alloc (.cells (tbCells (.slice none 0 0) (.slice none 0 0)).toArray 25))) := (HSn.out).put 25 (tbCells (.slice none 0 0) (.slice none 0 0))
                            refine hK.out _ _ (⟨(fun j v hv => by rw [Nat.zero_add]; exact (HS513.out).at 2 rfl j hv), (fun j v hv => by rw [Nat.zero_add]; exact (HS513.out).at 1 rfl j hv)⟩) (fun hHeld => ?_)
                            clear hK K
                            generalize (wd.alloc (.cells (tbCells (.slice none 0 0) (.slice none 0 0)).toArray 25)) = w513 at *
                            generalize wd.heap.size = B512 at *
                            try simp only [z0, z1, z2, z3]
                            have HS514 : Hid (Hp w [.cd C, .ob B21 29 (grCells g), .ob B23 25 (tbCells (.slice a9 u.held.length c9) (.slice b9 u.wait.length d9)), .rd R9, .rd Rx, .ob B512 25 (tbCells (.slice none 0 0) (.slice none 0 0)), .ob X15 25 (tbCells (.slice none 0 0) (.slice none 0 0))] w513) := HS513.out.pull [0, 1, 2, 3, 4, 6, 5] rfl (pull_nd HS513.out.nd [0, 1, 2, 3, 4, 6, 5] rfl (by decide))
                            clear HS513
                            exact N12 w513 B512 X15 ax cx bx dx Rx ⟨HS514, Hrdx, hHeld⟩
                           ·rw [if_pos (by rfl)]
                            refine wp_alloc_ob 25 (tbCells (.slice none 0 0) (.slice none 0 0)) rfl alloc_tb ?_
                            have HS513 : Hid (Hp w [.cd C, .ob B21 29 (grCells g), .ob B23 25 (tbCells (.slice a9 u.held.length c9) (.slice b9 u.wait.length d9)), .rd R9, .rd Rx, .ob X15 25 (tbCells (.slice none 0 0) (.slice none 0 0)), .ob (wd.heap.size) 25 (tbCells (.slice none 0 0) (.slice none 0 0))] (wd.alloc (.cells (tbCells (.slice none 0 0) (.slice none 0 0)).toArray 25))) := (HSn.out).put 25 (tbCells (.slice none 0 0) (.slice none 0 0))
                            refine hK.out _ _ (⟨(fun j v hv => by rw [Nat.zero_add]; exact (HS513.out).at 2 rfl j hv), (fun j v hv => by rw [Nat.zero_add]; exact (HS513.out).at 1 rfl j hv)⟩) (fun hHeld => ?_)
                            clear hK K
                            generalize (wd.alloc (.cells (tbCells (.slice none 0 0) (.slice none 0 0)).toArray 25)) = w513 at *
                            generalize wd.heap.size = B512 at *
                            try simp only [z0, z1, z2, z3]
                            exact N14 w513 X15 B512 ax cx bx dx Rx ⟨HS513, Hrdx, hHeld⟩
                         case node =>
                          rintro wd X16 ax cx bx dx Rx ⟨HSn, Hrdx, hHeld⟩
                          refine wpAnyH_ready (rs := [7, 14, 15]) (by kernel_rfl) (by simp) ?_
                          refine AllReadyH.cons (o := qLwRp8_15) rfl (fun K hK => ?_) (AllReadyH.cons (o := qLwRp8_12) rfl (fun K hK => ?_) (AllReadyH.cons (o := qLwRp8_13) rfl (fun K hK => ?_) (AllReadyH.nil)))
                          ·go_simp
                           go_wp2_with (go_at_call 26; refine (tb_as H6.out (pcancel_any g.tx _ Hrd9.out ((HSn.out).reads 3 rfl) HU.out)).mono ?_; rintro e w513 ⟨h9, v9, Rv, rfl, hrd2, hin2, hnew2, hb⟩)
                           obtain ⟨av, cv, rfl, _, _⟩ := hrd2.1.shape
                           obtain ⟨bv, dv, rfl, _, _⟩ := hrd2.2.shape
                           have Hrdv := Lib.hid hrd2
                           have HS513 : Hid (Hp w [.cd C, .ob B21 29 (grCells g), .ob B23 25 (tbCells (.slice a9 u.held.length c9) (.slice b9 u.wait.length d9)), .rd R9, .rd Rx, .ob X16 25 (tbCells (.slice none 0 0) (.slice none 0 0)), .rd Rv] w513) := (HSn.out).addrd hb Rv hin2 (fun r hr => (hnew2 r hr).elim .inl (fun h => .inr ⟨.rd R9, List.mem_of_getElem? (i := 3) rfl, h⟩))
                           refine hK.out _ _ (⟨(fun j v hv => by rw [Nat.zero_add]; exact (HS513.out).at 2 rfl j hv), (fun j v hv => by rw [Nat.zero_add]; exact (HS513.out).at 1 rfl j hv)⟩) (fun hHeld => ?_)
                           clear hK K hb hin2 hrd2 hnew2
                           try simp only [z0, z1, z2, z3]
                           have HS514 : Hid (Hp w [.cd C, .ob B21 29 (grCells g), .ob B23 25 (tbCells (.slice a9 u.held.length c9) (.slice b9 u.wait.length d9)), .rd R9, .rd Rx, .rd Rv, .ob X16 25 (tbCells (.slice none 0 0) (.slice none 0 0))] w513) := HS513.out.pull [0, 1, 2, 3, 4, 6, 5] rfl (pull_nd HS513.out.nd [0, 1, 2, 3, 4, 6, 5] rfl (by decide))
                           clear HS513
                           exact N5 w513 X16 ax cx bx dx Rx av cv bv dv Rv ⟨HS514, Hrdx, Hrdv, hHeld⟩
                          ·rw [if_pos (by rfl)]
                           refine wp_alloc_ob 25 (tbCells (.slice none 0 0) (.slice none 0 0)) rfl alloc_tb ?_
                           have HS513 : Hid (Hp w [.cd C, .ob B21 29 (grCells g), .ob B23 25 (tbCells (.slice a9 u.held.length c9) (.slice b9 u.wait.length d9)), .rd R9, .rd Rx, .ob X16 25 (tbCells (.slice none 0 0) (.slice none 0 0)), .ob (wd.heap.size) 25 (tbCells (.slice none 0 0) (.slice none 0 0))] (wd.alloc (.cells (tbCells (.slice none 0 0) (.slice none 0 0)).toArray 25))) := (HSn.out).put 25 (tbCells (.slice none 0 0) (.slice none 0 0))
                           refine hK.out _ _ (⟨(fun j v hv => by rw [Nat.zero_add]; exact (HS513.out).at 2 rfl j hv), (fun j v hv => by rw [Nat.zero_add]; exact (HS513.out).at 1 rfl j hv)⟩) (fun hHeld => ?_)
                           clear hK K
                           generalize (wd.alloc (.cells (tbCells (.slice none 0 0) (.slice none 0 0)).toArray 25)) = w513 at *
                           generalize wd.heap.size = B512 at *
                           try simp only [z0, z1, z2, z3]
                           have HS514 : Hid (Hp w [.cd C, .ob B21 29 (grCells g), .ob B23 25 (tbCells (.slice a9 u.held.length c9) (.slice b9 u.wait.length d9)), .rd R9, .rd Rx, .ob B512 25 (tbCells (.slice none 0 0) (.slice none 0 0)), .ob X16 25 (tbCells (.slice none 0 0) (.slice none 0 0))] w513) := HS513.out.pull [0, 1, 2, 3, 4, 6, 5] rfl (pull_nd HS513.out.nd [0, 1, 2, 3, 4, 6, 5] rfl (by decide))
                           clear HS513
                           exact N13 w513 B512 X16 ax cx bx dx Rx ⟨HS514, Hrdx, hHeld⟩
                          ·rw [if_pos (by rfl)]
                           refine wp_alloc_ob 25 (tbCells (.slice none 0 0) (.slice none 0 0)) rfl alloc_tb ?_
                           have HS513 : Hid (Hp w [.cd C, .ob B21 29 (grCells g), .ob B23 25 (tbCells (.slice a9 u.held.length c9) (.slice b9 u.wait.length d9)), .rd R9, .rd Rx, .ob X16 25 (tbCells (.slice none 0 0) (.slice none 0 0)), .ob (wd.heap.size) 25 (tbCells (.slice none 0 0) (.slice none 0 0))] (wd.alloc (.cells (tbCells (.slice none 0 0) (.slice none 0 0)).toArray 25))) := (HSn.out).put 25 (tbCells (.slice none 0 0) (.slice none 0 0))
                           refine hK.out _ _ (⟨(fun j v hv => by rw [Nat.zero_add]; exact (HS513.out).at 2 rfl j hv), (fun j v hv => by rw [Nat.zero_add]; exact (HS513.out).at 1 rfl j hv)⟩) (fun hHeld => ?_)
                           clear hK K
                           generalize (wd.alloc (.cells (tbCells (.slice none 0 0) (.slice none 0 0)).toArray 25)) = w513 at *
                           generalize wd.heap.size = B512 at *
                           try simp only [z0, z1, z2, z3]
                           have HS514 : Hid (Hp w [.cd C, .ob B21 29 (grCells g), .ob B23 25 (tbCells (.slice a9 u.held.length c9) (.slice b9 u.wait.length d9)), .rd R9, .rd Rx, .ob B512 25 (tbCells (.slice none 0 0) (.slice none 0 0)), .ob X16 25 (tbCells (.slice none 0 0) (.slice none 0 0))] w513) := HS513.out.pull [0, 1, 2, 3, 4, 6, 5] rfl (pull_nd HS513.out.nd [0, 1, 2, 3, 4, 6, 5] rfl (by decide))
                           clear HS513
                           exact N14 w513 B512 X16 ax cx bx dx Rx ⟨HS514, Hrdx, hHeld⟩
                        case node =>
                         rintro wd X14 X15 ⟨HSn, hHeld⟩
                         refine wpAnyH_ready (rs := [3, 16]) (by kernel_rfl) (by simp) ?_
                         refine AllReadyH.cons (o := qLwRp8_11) rfl (fun K hK => ?_) (AllReadyH.cons (o := qLwRp8_14) rfl (fun K hK => ?_) (AllReadyH.nil))
                         ·go_simp
                          go_wp2_with (go_at_call 28; refine (tb_as H5.out (prelease_any g.tx _ Hrd9.out ((HSn.out).reads 3 rfl) HU.out)).mono ?_; rintro e w513 ⟨h9, v9, Rx, rfl, hrd2, hin2, hnew2, hb⟩)
                          obtain ⟨ax, cx, rfl, _, _⟩ := hrd2.1.shape
                          obtain ⟨bx, dx, rfl, _, _⟩ := hrd2.2.shape
                          have Hrdx := Lib.hid hrd2
                          have HS513 : Hid (Hp w [.cd C, .ob B21 29 (grCells g), .ob B23 25 (tbCells (.slice a9 u.held.length c9) (.slice b9 u.wait.length d9)), .rd R9, .ob X14 25 (tbCells (.slice none 0 0) (.slice none 0 0)), .ob X15 25 (tbCells (.slice none 0 0) (.slice none 0 0)), .rd Rx] w513) := (HSn.out).addrd hb Rx hin2 (fun r hr => (hnew2 r hr).elim .inl (fun h => .inr ⟨.rd R9, List.mem_of_getElem? (i := 3) rfl, h⟩))
                          refine hK.out _ _ (⟨(fun j v hv => by rw [Nat.zero_add]; exact (HS513.out).at 2 rfl j hv), (fun j v hv => by rw [Nat.zero_add]; exact (HS513.out).at 1 rfl j hv)⟩) (fun hHeld => ?_)
                          clear hK K hb hin2 hrd2 hnew2
                          try simp only [z0, z1, z2, z3]
                          have HS514 : Hid (Hp w [.cd C, .ob B21 29 (grCells g), .ob B23 25 (tbCells (.slice a9 u.held.length c9) (.slice b9 u.wait.length d9)), .rd R9, .rd Rx, .ob X14 25 (tbCells (.slice none 0 0) (.slice none 0 0)), .ob X15 25 (tbCells (.slice none 0 0) (.slice none 0 0))] w513) := HS513.out.pull [0, 1, 2, 3, 6, 4, 5] rfl (pull_nd HS513.out.nd [0, 1, 2, 3, 6, 4, 5] rfl (by decide))
                          clear HS513
                          exact N12 w513 X14 X15 ax cx bx dx Rx ⟨HS514, Hrdx, hHeld⟩
                         ·rw [if_pos (by rfl)]
                          refine wp_alloc_ob 25 (tbCells (.slice none 0 0) (.slice none 0 0)) rfl alloc_tb ?_
                          have HS513 : Hid (Hp w [.cd C, .ob B21 29 (grCells g), .ob B23 25 (tbCells (.slice a9 u.held.length c9) (.slice b9 u.wait.length d9)), .rd R9, .ob X14 25 (tbCells (.slice none 0 0) (.slice none 0 0)), .ob X15 25 (tbCells (.slice none 0 0) (.slice none 0 0)), .ob (wd.heap.size) 25 (tbCells (.slice none 0 0) (.slice none 0 0))] (wd.alloc (.cells (tbCells (.slice none 0 0) (.slice none 0 0)).toArray 25))) := (HSn.out).put 25 (tbCells (.slice none 0 0) (.slice none 0 0))
                          refine hK.out _ _ (⟨(fun j v hv => by rw [Nat.zero_add]; exact (HS513.out).at 2 rfl j hv), (fun j v hv => by rw [Nat.zero_add]; exact (HS513.out).at 1 rfl j hv)⟩) (fun hHeld => ?_)
                          clear hK K
                          generalize (wd.alloc (.cells (tbCells (.slice none 0 0) (.slice none 0 0)).toArray 25)) = w513 at *
                          generalize wd.heap.size = B513 at *
                          try simp only [z0, z1, z2, z3]
                          exact N15 w513 X14 X15 B513 ⟨HS513, hHeld⟩
                       case node =>
                        rintro wd X14 X16 ⟨HSn, hHeld⟩
                        refine wpAnyH_ready (rs := [3, 15]) (by kernel_rfl) (by simp) ?_
                        refine AllReadyH.cons (o := qLwRp8_11) rfl (fun K hK => ?_) (AllReadyH.cons (o := qLwRp8_13) rfl (fun K hK => ?_) (AllReadyH.nil))
                        ·go_simp
                         go_wp2_with (go_at_call 28; refine (tb_as H5.out (prelease_any g.tx _ Hrd9.out ((HSn.out).reads 3 rfl) HU.out)).mono ?_; rintro e w513 ⟨h9, v9, Rx, rfl, hrd2, hin2, hnew2, hb⟩)
                         obtain ⟨ax, cx, rfl, _, _⟩ := hrd2.1.shape
                         obtain ⟨bx, dx, rfl, _, _⟩ := hrd2.2.shape
                         have Hrdx := Lib.hid hrd2
                         have HS513 : Hid (Hp w [.cd C, .ob B21 29 (grCells g), .ob B23 25 (tbCells (.slice a9 u.held.length c9) (.slice b9 u.wait.length d9)), .rd R9, .ob X14 25 (tbCells (.slice none 0 0) (.slice none 0 0)), .ob X16 25 (tbCells (.slice none 0 0) (.slice none 0 0)), .rd Rx] w513) := (HSn.out).addrd hb Rx hin2 (fun r hr => (hnew2 r hr).elim .inl (fun h => .inr ⟨.rd R9, List.mem_of_getElem? (i := 3) rfl, h⟩))
                         refine hK.out _ _ (⟨(fun j v hv => by rw [Nat.zero_add]; exact (HS513.out).at 2 rfl j hv), (fun j v hv => by rw [Nat.zero_add]; exact (HS513.out).at 1 rfl j hv)⟩) (fun hHeld => ?_)
                         clear hK K hb hin2 hrd2 hnew2
                         try simp only [z0, z1, z2, z3]
                         have HS514 : Hid (Hp w [.cd C, .ob B21 29 (grCells g), .ob B23 25 (tbCells (.slice a9 u.held.length c9) (.slice b9 u.wait.length d9)), .rd R9, .rd Rx, .ob X14 25 (tbCells (.slice none 0 0) (.slice none 0 0)), .ob X16 25 (tbCells (.slice none 0 0) (.slice none 0 0))] w513) := HS513.out.pull [0, 1, 2, 3, 6, 4, 5] rfl (pull_nd HS513.out.nd [0, 1, 2, 3, 6, 4, 5] rfl (by decide))
                         clear HS513
                         exact N13 w513 X14 X16 ax cx bx dx Rx ⟨HS514, Hrdx, hHeld⟩
                        ·rw [if_pos (by rfl)]
                         refine wp_alloc_ob 25 (tbCells (.slice none 0 0) (.slice none 0 0)) rfl alloc_tb ?_
                         have HS513 : Hid (Hp w [.cd C, .ob B21 29 (grCells g), .ob B23 25 (tbCells (.slice a9 u.held.length c9) (.slice b9 u.wait.length d9)), .rd R9, .ob X14 25 (tbCells (.slice none 0 0) (.slice none 0 0)), .ob X16 25 (tbCells (.slice none 0 0) (.slice none 0 0)), .ob (wd.heap.size) 25 (tbCells (.slice none 0 0) (.slice none 0 0))] (wd.alloc (.cells (tbCells (.slice none 0 0) (.slice none 0 0)).toArray 25))) := (HSn.out).put 25 (tbCells (.slice none 0 0) (.slice none 0 0))
                         refine hK.out _ _ (⟨(fun j v hv => by rw [Nat.zero_add]; exact (HS513.out).at 2 rfl j hv), (fun j v hv => by rw [Nat.zero_add]; exact (HS513.out).at 1 rfl j hv)⟩) (fun hHeld => ?_)
                         clear hK K
                         generalize (wd.alloc (.cells (tbCells (.slice none 0 0) (.slice none 0 0)).toArray 25)) = w513 at *
                         generalize wd.heap.size = B513 at *
                         try simp only [z0, z1, z2, z3]
                         have HS514 : Hid (Hp w [.cd C, .ob B21 29 (grCells g), .ob B23 25 (tbCells (.slice a9 u.held.length c9) (.slice b9 u.wait.length d9)), .rd R9, .ob X14 25 (tbCells (.slice none 0 0) (.slice none 0 0)), .ob B513 25 (tbCells (.slice none 0 0) (.slice none 0 0)), .ob X16 25 (tbCells (.slice none 0 0) (.slice none 0 0))] w513) := HS513.out.pull [0, 1, 2, 3, 4, 6, 5] rfl (pull_nd HS513.out.nd [0, 1, 2, 3, 4, 6, 5] rfl (by decide))
                         clear HS513
                         exact N15 w513 X14 B513 X16 ⟨HS514, hHeld⟩
                      case node =>
                       rintro wd X15 X16 ⟨HSn, hHeld⟩
                       refine wpAnyH_ready (rs := [3, 14]) (by kernel_rfl) (by simp) ?_
                       refine AllReadyH.cons (o := qLwRp8_11) rfl (fun K hK => ?_) (AllReadyH.cons (o := qLwRp8_12) rfl (fun K hK => ?_) (AllReadyH.nil))
                       ·go_simp
                        go_wp2_with (go_at_call 28; refine (tb_as H5.out (prelease_any g.tx _ Hrd9.out ((HSn.out).reads 3 rfl) HU.out)).mono ?_; rintro e w513 ⟨h9, v9, Rx, rfl, hrd2, hin2, hnew2, hb⟩)
                        obtain ⟨ax, cx, rfl, _, _⟩ := hrd2.1.shape
                        obtain ⟨bx, dx, rfl, _, _⟩ := hrd2.2.shape
                        have Hrdx := Lib.hid hrd2
                        have HS513 : Hid (Hp w [.cd C, .ob B21 29 (grCells g), .ob B23 25 (tbCells (.slice a9 u.held.length c9) (.slice b9 u.wait.length d9)), .rd R9, .ob X15 25 (tbCells (.slice none 0 0) (.slice none 0 0)), .ob X16 25 (tbCells (.slice none 0 0) (.slice none 0 0)), .rd Rx] w513) := (HSn.out).addrd hb Rx hin2 (fun r hr => (hnew2 r hr).elim .inl (fun h => .inr ⟨.rd R9, List.mem_of_getElem? (i := 3) rfl, h⟩))
                        refine hK.out _ _ (⟨(fun j v hv => by rw [Nat.zero_add]; exact (HS513.out).at 2 rfl j hv), (fun j v hv => by rw [Nat.zero_add]; exact (HS513.out).at 1 rfl j hv)⟩) (fun hHeld => ?_)
                        clear hK K hb hin2 hrd2 hnew2
                        try simp only [z0, z1, z2, z3]
                        have HS514 : Hid (Hp w [.cd C, .ob B21 29 (grCells g), .ob B23 25 (tbCells (.slice a9 u.held.length c9) (.slice b9 u.wait.length d9)), .rd R9, .rd Rx, .ob X15 25 (tbCells (.slice none 0 0) (.slice none 0 0)), .ob X16 25 (tbCells (.slice none 0 0) (.slice none 0 0))] w513) := HS513.out.pull [0, 1, 2, 3, 6, 4, 5] rfl (pull_nd HS513.out.nd [0, 1, 2, 3, 6, 4, 5] rfl (by decide))
                        clear HS513
                        exact N14 w513 X15 X16 ax cx bx dx Rx ⟨HS514, Hrdx, hHeld⟩
                       ·rw [if_pos (by rfl)]
                        refine wp_alloc_ob 25 (tbCells (.slice none 0 0) (.slice none 0 0)) rfl alloc_tb ?_
                        have HS513 : Hid (Hp w [.cd C, .ob B21 29 (grCells g), .ob B23 25 (tbCells (.slice a9 u.held.length c9) (.slice b9 u.wait.length d9)), .rd R9, .ob X15 25 (tbCells (.slice none 0 0) (.slice none 0 0)), .ob X16 25 (tbCells (.slice none 0 0) (.slice none 0 0)), .ob (wd.heap.size) 25 (tbCells (.slice none 0 0) (.slice none 0 0))] (wd.alloc (.cells (tbCells (.slice none 0 0) (.slice none 0 0)).toArray 25))) := (HSn.out).put 25 (tbCells (.slice none 0 0) (.slice none 0 0))
                        refine hK.out _ _ (⟨(fun j v hv => by rw [Nat.zero_add]; exact (HS513.out).at 2 rfl j hv), (fun j v hv => by rw [Nat.zero_add]; exact (HS513.out).at 1 rfl j hv)⟩) (fun hHeld => ?_)
                        clear hK K
                        generalize (wd.alloc (.cells (tbCells (.slice none 0 0) (.slice none 0 0)).toArray 25)) = w513 at *
                        generalize wd.heap.size = B513 at *
                        try simp only [z0, z1, z2, z3]
                        have HS514 : Hid (Hp w [.cd C, .ob B21 29 (grCells g), .ob B23 25 (tbCells (.slice a9 u.held.length c9) (.slice b9 u.wait.length d9)), .rd R9, .ob B513 25 (tbCells (.slice none 0 0) (.slice none 0 0)), .ob X15 25 (tbCells (.slice none 0 0) (.slice none 0 0)), .ob X16 25 (tbCells (.slice none 0 0) (.slice none 0 0))] w513) := HS513.out.pull [0, 1, 2, 3, 6, 4, 5] rfl (pull_nd HS513.out.nd [0, 1, 2, 3, 6, 4, 5] rfl (by decide))
                        clear HS513
                        exact N15 w513 B513 X15 X16 ⟨HS514, hHeld⟩
                     case node =>
                      rintro wd X14 ax cx bx dx Rx av cv bv dv Rv ⟨HSn, Hrdx, Hrdv, hHeld⟩
                      refine wpAnyH_ready (rs := [13, 15, 16]) (by kernel_rfl) (by simp) ?_
                      refine AllReadyH.cons (o := qLwRp8_16) rfl (fun K hK => ?_) (AllReadyH.cons (o := qLwRp8_13) rfl (fun K hK => ?_) (AllReadyH.cons (o := qLwRp8_14) rfl (fun K hK => ?_) (AllReadyH.nil)))
                      ·go_simp
                       go_wp2_with (go_at_call 22; refine (tb_as H7.out (pdrop_any g.tx g.lock _ Hrd9.out ((HSn.out).reads 3 rfl) HU.out HG.out.lock)).mono ?_; rintro e w514 ⟨h9, v9, Rz, rfl, hrd2, hin2, hnew2, hb⟩)
                       obtain ⟨az, cz, rfl, _, _⟩ := hrd2.1.shape
                       obtain ⟨bz, dz, rfl, _, _⟩ := hrd2.2.shape
                       have Hrdz := Lib.hid hrd2
                       have HS514 : Hid (Hp w [.cd C, .ob B21 29 (grCells g), .ob B23 25 (tbCells (.slice a9 u.held.length c9) (.slice b9 u.wait.length d9)), .rd R9, .rd Rx, .rd Rv, .ob X14 25 (tbCells (.slice none 0 0) (.slice none 0 0)), .rd Rz] w514) := (HSn.out).addrd hb Rz hin2 (fun r hr => (hnew2 r hr).elim .inl (fun h => .inr ⟨.rd R9, List.mem_of_getElem? (i := 3) rfl, h⟩))
                       refine hK.out _ _ (⟨(fun j v hv => by rw [Nat.zero_add]; exact (HS514.out).at 2 rfl j hv), (fun j v hv => by rw [Nat.zero_add]; exact (HS514.out).at 1 rfl j hv)⟩) (fun hHeld => ?_)
                       clear hK K hb hin2 hrd2 hnew2
                       try simp only [z0, z1, z2, z3]
                       have HS515 : Hid (Hp w [.cd C, .ob B21 29 (grCells g), .ob B23 25 (tbCells (.slice a9 u.held.length c9) (.slice b9 u.wait.length d9)), .rd R9, .rd Rx, .rd Rv, .rd Rz, .ob X14 25 (tbCells (.slice none 0 0) (.slice none 0 0))] w514) := HS514.out.pull [0, 1, 2, 3, 4, 5, 7, 6] rfl (pull_nd HS514.out.nd [0, 1, 2, 3, 4, 5, 7, 6] rfl (by decide))
                       clear HS514
                       exact N0 w514 X14 ax cx bx dx Rx av cv bv dv Rv az cz bz dz Rz ⟨HS515, Hrdx, Hrdv, Hrdz, hHeld⟩
                      ·rw [if_pos (by rfl)]
                       refine wp_alloc_ob 25 (tbCells (.slice none 0 0) (.slice none 0 0)) rfl alloc_tb ?_
                       have HS514 : Hid (Hp w [.cd C, .ob B21 29 (grCells g), .ob B23 25 (tbCells (.slice a9 u.held.length c9) (.slice b9 u.wait.length d9)), .rd R9, .rd Rx, .rd Rv, .ob X14 25 (tbCells (.slice none 0 0) (.slice none 0 0)), .ob (wd.heap.size) 25 (tbCells (.slice none 0 0) (.slice none 0 0))] (wd.alloc (.cells (tbCells (.slice none 0 0) (.slice none 0 0)).toArray 25))) := (HSn.out).put 25 (tbCells (.slice none 0 0) (.slice none 0 0))
                       refine hK.out _ _ (⟨(fun j v hv => by rw [Nat.zero_add]; exact (HS514.out).at 2 rfl j hv), (fun j v hv => by rw [Nat.zero_add]; exact (HS514.out).at 1 rfl j hv)⟩) (fun hHeld => ?_)
                       clear hK K
                       generalize (wd.alloc (.cells (tbCells (.slice none 0 0) (.slice none 0 0)).toArray 25)) = w514 at *
                       generalize wd.heap.size = B512 at *
                       try simp only [z0, z1, z2, z3]
                       exact N16 w514 X14 B512 ax cx bx dx Rx av cv bv dv Rv ⟨HS514, Hrdx, Hrdv, hHeld⟩
                      ·rw [if_pos (by rfl)]
                       refine wp_alloc_ob 25 (tbCells (.slice none 0 0) (.slice none 0 0)) rfl alloc_tb ?_
                       have HS514 : Hid (Hp w [.cd C, .ob B21 29 (grCells g), .ob B23 25 (tbCells (.slice a9 u.held.length c9) (.slice b9 u.wait.length d9)), .rd R9, .rd Rx, .rd Rv, .ob X14 25 (tbCells (.slice none 0 0) (.slice none 0 0)), .ob (wd.heap.size) 25 (tbCells (.slice none 0 0) (.slice none 0 0))] (wd.alloc (.cells (tbCells (.slice none 0 0) (.slice none 0 0)).toArray 25))) := (HSn.out).put 25 (tbCells (.slice none 0 0) (.slice none 0 0))
                       refine hK.out _ _ (⟨(fun j v hv => by rw [Nat.zero_add]; exact (HS514.out).at 2 rfl j hv), (fun j v hv => by rw [Nat.zero_add]; exact (HS514.out).at 1 rfl j hv)⟩) (fun hHeld => ?_)
                       clear hK K
                       generalize (wd.alloc (.cells (tbCells (.slice none 0 0) (.slice none 0 0)).toArray 25)) = w514 at *
                       generalize wd.heap.size = B512 at *
                       try simp only [z0, z1, z2, z3]
                       exact N17 w514 X14 B512 ax cx bx dx Rx av cv bv dv Rv ⟨HS514, Hrdx, Hrdv, hHeld⟩
                    case node =>
                     rintro wd X15 ax cx bx dx Rx av cv bv dv Rv ⟨HSn, Hrdx, Hrdv, hHeld⟩
                     refine wpAnyH_ready (rs := [13, 14, 16]) (by kernel_rfl) (by simp) ?_
                     refine AllReadyH.cons (o := qLwRp8_16) rfl (fun K hK => ?_) (AllReadyH.cons (o := qLwRp8_12) rfl (fun K hK => ?_) (AllReadyH.cons (o := qLwRp8_14) rfl (fun K hK => ?_) (AllReadyH.nil)))
                     ·go_simp
                      go_wp2_with (go_at_call 22; refine (tb_as H7.out (pdrop_any g.tx g.lock _ Hrd9.out ((HSn.out).reads 3 rfl) HU.out HG.out.lock)).mono ?_; rintro e w514 ⟨h9, v9, Rz, rfl, hrd2, hin2, hnew2, hb⟩)
                      obtain ⟨az, cz, rfl, _, _⟩ := hrd2.1.shape
                      obtain ⟨bz, dz, rfl, _, _⟩ := hrd2.2.shape
                      have Hrdz := Lib.hid hrd2
                      have HS514 : Hid (Hp w [.cd C, .ob B21 29 (grCells g), .ob B23 25 (tbCells (.slice a9 u.held.length c9) (.slice b9 u.wait.length d9)), .rd R9, .rd Rx, .rd Rv, .ob X15 25 (tbCells (.slice none 0 0) (.slice none 0 0)), .rd Rz] w514) := (HSn.out).addrd hb Rz hin2 (fun r hr => (hnew2 r hr).elim .inl (fun h => .inr ⟨.rd R9, List.mem_of_getElem? (i := 3) rfl, h⟩))
                      refine hK.out _ _ (⟨(fun j v hv => by rw [Nat.zero_add]; exact (HS514.out).at 2 rfl j hv), (fun j v hv => by rw [Nat.zero_add]; exact (HS514.out).at 1 rfl j hv)⟩) (fun hHeld => ?_)
                      clear hK K hb hin2 hrd2 hnew2
                      try simp only [z0, z1, z2, z3]
                      have HS515 : Hid (Hp w [.cd C, .ob B21 29 (grCells g), .ob B23 25 (tbCells (.slice a9 u.held.length c9) (.slice b9 u.wait.length d9)), .rd R9, .rd Rx, .rd Rv, .rd Rz, .ob X15 25 (tbCells (.slice none 0 0) (.slice none 0 0))] w514) := HS514.out.pull [0, 1, 2, 3, 4, 5, 7, 6] rfl (pull_nd HS514.out.nd [0, 1, 2, 3, 4, 5, 7, 6] rfl (by decide))
                      clear HS514
                      exact N1 w514 X15 ax cx bx dx Rx av cv bv dv Rv az cz bz dz Rz ⟨HS515, Hrdx, Hrdv, Hrdz, hHeld⟩
                     ·rw [if_pos (by rfl)]
                      refine wp_alloc_ob 25 (tbCells (.slice none 0 0) (.slice none 0 0)) rfl alloc_tb ?_
                      have HS514 : Hid (Hp w [.cd C, .ob B21 29 (grCells g), .ob B23 25 (tbCells (.slice a9 u.held.length c9) (.slice b9 u.wait.length d9)), .rd R9, .rd Rx, .rd Rv, .ob X15 25 (tbCells (.slice none 0 0) (.slice none 0 0)), .ob (wd.heap.size) 25 (tbCells (.slice none 0 0) (.slice none 0 0))] (wd.alloc (.cells (tbCells (.slice none 0 0) (.slice none 0 0)).toArray 25))) := (HSn.out).put 25 (tbCells (.slice none 0 0) (.slice none 0 0))
                      refine hK.out _ _ (⟨(fun j v hv => by rw [Nat.zero_add]; exact (HS514.out).at 2 rfl j hv), (fun j v hv => by rw [Nat.zero_add]; exact (HS514.out).at 1 rfl j hv)⟩) (fun hHeld => ?_)
                      clear hK K
                      generalize (wd.alloc (.cells (tbCells (.slice none 0 0) (.slice none 0 0)).toArray 25)) = w514 at *
                      generalize wd.heap.size = B512 at *
                      try simp only [z0, z1, z2, z3]
                      have HS515 : Hid (Hp w [.cd C, .ob B21 29 (grCells g), .ob B23 25 (tbCells (.slice a9 u.held.length c9) (.slice b9 u.wait.length d9)), .rd R9, .rd Rx, .rd Rv, .ob B512 25 (tbCells (.slice none 0 0) (.slice none 0 0)), .ob X15 25 (tbCells (.slice none 0 0) (.slice none 0 0))] w514) := HS514.out.pull [0, 1, 2, 3, 4, 5, 7, 6] rfl (pull_nd HS514.out.nd [0, 1, 2, 3, 4, 5, 7, 6] rfl (by decide))
                      clear HS514
                      exact N16 w514 B512 X15 ax cx bx dx Rx av cv bv dv Rv ⟨HS515, Hrdx, Hrdv, hHeld⟩
                     ·rw [if_pos (by rfl)]
                      refine wp_alloc_ob 25 (tbCells (.slice none 0 0) (.slice none 0 0)) rfl alloc_tb ?_
                      have HS514 : Hid (Hp w [.cd C, .ob B21 29 (grCells g), .ob B23 25 (tbCells (.slice a9 u.held.length c9) (.slice b9 u.wait.length d9)), .rd R9, .rd Rx, .rd Rv, .ob X15 25 (tbCells (.slice none 0 0) (.slice none 0 0)), .ob (wd.heap.size) 25 (tbCells (.slice none 0 0) (.slice none 0 0))] (wd.alloc (.cells (tbCells (.slice none 0 0) (.slice none 0 0)).toArray 25))) := (HSn.out).put 25 (tbCells (.slice none 0 0) (.slice none 0 0))
                      refine hK.out _ _ (⟨(fun j v hv => by rw [Nat.zero_add]; exact (HS514.out).at 2 rfl j hv), (fun j v hv => by rw [Nat.zero_add]; exact (HS514.out).at 1 rfl j hv)⟩) (fun hHeld => ?_)
                      clear hK K
                      generalize (wd.alloc (.cells (tbCells (.slice none 0 0) (.slice none 0 0)).toArray 25)) = w514 at *
                      generalize wd.heap.size = B512 at *
                      try simp only [z0, z1, z2, z3]
                      exact N18 w514 X15 B512 ax cx bx dx Rx av cv bv dv Rv ⟨HS514, Hrdx, Hrdv, hHeld⟩
                   case node =>
                    rintro wd X16 ax cx bx dx Rx av cv bv dv Rv ⟨HSn, Hrdx, Hrdv, hHeld⟩
                    refine wpAnyH_ready (rs := [13, 14, 15]) (by kernel_rfl) (by simp) ?_
                    refine AllReadyH.cons (o := qLwRp8_16) rfl (fun K hK => ?_) (AllReadyH.cons (o := qLwRp8_12) rfl (fun K hK => ?_) (AllReadyH.cons (o := qLwRp8_13) rfl (fun K hK => ?_) (AllReadyH.nil)))
                    ·go_simp
                     go_wp2_with (go_at_call 22; refine (tb_as H7.out (pdrop_any g.tx g.lock _ Hrd9.out ((HSn.out).reads 3 rfl) HU.out HG.out.lock)).mono ?_; rintro e w514 ⟨h9, v9, Rz, rfl, hrd2, hin2, hnew2, hb⟩)
                     obtain ⟨az, cz, rfl, _, _⟩ := hrd2.1.shape
                     obtain ⟨bz, dz, rfl, _, _⟩ := hrd2.2.shape
                     have Hrdz := Lib.hid hrd2
                     have HS514 : Hid (Hp w [.cd C, .ob B21 29 (grCells g), .ob B23 25 (tbCells (.slice a9 u.held.length c9) (.slice b9 u.wait.length d9)), .rd R9, .rd Rx, .rd Rv, .ob X16 25 (tbCells (.slice none 0 0) (.slice none 0 0)), .rd Rz] w514) := (HSn.out).addrd hb Rz hin2 (fun r hr => (hnew2 r hr).elim .inl (fun h => .inr ⟨.rd R9, List.mem_of_getElem? (i := 3) rfl, h⟩))
                     refine hK.out _ _ (⟨(fun j v hv => by rw [Nat.zero_add]; exact (HS514.out).at 2 rfl j hv), (fun j v hv => by rw [Nat.zero_add]; exact (HS514.out).at 1 rfl j hv)⟩) (fun hHeld => ?_)
                     clear hK K hb hin2 hrd2 hnew2
                     try simp only [z0, z1, z2, z3]
                     have HS515 : Hid (Hp w [.cd C, .ob B21 29 (grCells g), .ob B23 25 (tbCells (.slice a9 u.held.length c9) (.slice b9 u.wait.length d9)), .rd R9, .rd Rx, .rd Rv, .rd Rz, .ob X16 25 (tbCells (.slice none 0 0) (.slice none 0 0))] w514) := HS514.out.pull [0, 1, 2, 3, 4, 5, 7, 6] rfl (pull_nd HS514.out.nd [0, 1, 2, 3, 4, 5, 7, 6] rfl (by decide))
                     clear HS514
                     exact N2 w514 X16 ax cx bx dx Rx av cv bv dv Rv az cz bz dz Rz ⟨HS515, Hrdx, Hrdv, Hrdz, hHeld⟩
                    ·rw [if_pos (by rfl)]
                     refine wp_alloc_ob 25 (tbCells (.slice none 0 0) (.slice none 0 0)) rfl alloc_tb ?_
                     have HS514 : Hid (Hp w [.cd C, .ob B21 29 (grCells g), .ob B23 25 (tbCells (.slice a9 u.held.length c9) (.slice b9 u.wait.length d9)), .rd R9, .rd Rx, .rd Rv, .ob X16 25 (tbCells (.slice none 0 0) (.slice none 0 0)), .ob (wd.heap.size) 25 (tbCells (.slice none 0 0) (.slice none 0 0))] (wd.alloc (.cells (tbCells (.slice none 0 0) (.slice none 0 0)).toArray 25))) := (HSn.out).put 25 (tbCells (.slice none 0 0) (.slice none 0 0))
                     refine hK.out _ _ (⟨(fun j v hv => by rw [Nat.zero_add]; exact (HS514.out).at 2 rfl j hv), (fun j v hv => by rw [Nat.zero_add]; exact (HS514.out).at 1 rfl j hv)⟩) (fun hHeld => ?_)
                     clear hK K
                     generalize (wd.alloc (.cells (tbCells (.slice none 0 0) (.slice none 0 0)).toArray 25)) = w514 at *
                     generalize wd.heap.size = B512 at *
                     try simp only [z0, z1, z2, z3]
                     have HS515 : Hid (Hp w [.cd C, .ob B21 29 (grCells g), .ob B23 25 (tbCells (.slice a9 u.held.length c9) (.slice b9 u.wait.length d9)), .rd R9, .rd Rx, .rd Rv, .ob B512 25 (tbCells (.slice none 0 0) (.slice none 0 0)), .ob X16 25 (tbCells (.slice none 0 0) (.slice none 0 0))] w514) := HS514.out.pull [0, 1, 2, 3, 4, 5, 7, 6] rfl (pull_nd HS514.out.nd [0, 1, 2, 3, 4, 5, 7, 6] rfl (by decide))
                     clear HS514
                     exact N17 w514 B512 X16 ax cx bx dx Rx av cv bv dv Rv ⟨HS515, Hrdx, Hrdv, hHeld⟩
                    ·rw [if_pos (by rfl)]
                     refine wp_alloc_ob 25 (tbCells (.slice none 0 0) (.slice none 0 0)) rfl alloc_tb ?_
                     have HS514 : Hid (Hp w [.cd C, .ob B21 29 (grCells g), .ob B23 25 (tbCells (.slice a9 u.held.length c9) (.slice b9 u.wait.length d9)), .rd R9, .rd Rx, .rd Rv, .ob X16 25 (tbCells (.slice none 0 0) (.slice none 0 0)), .ob (wd.heap.size) 25 (tbCells (.slice none 0 0) (.slice none 0 0))] (wd.alloc (.cells (tbCells (.slice none 0 0) (.slice none 0 0)).toArray 25))) := (HSn.out).put 25 (tbCells (.slice none 0 0) (.slice none 0 0))
                     refine hK.out _ _ (⟨(fun j v hv => by rw [Nat.zero_add]; exact (HS514.out).at 2 rfl j hv), (fun j v hv => by rw [Nat.zero_add]; exact (HS514.out).at 1 rfl j hv)⟩) (fun hHeld => ?_)
                     clear hK K
                     generalize (wd.alloc (.cells (tbCells (.slice none 0 0) (.slice none 0 0)).toArray 25)) = w514 at *
                     generalize wd.heap.size = B512 at *
                     try simp only [z0, z1, z2, z3]
                     have HS515 : Hid (Hp w [.cd C, .ob B21 29 (grCells g), .ob B23 25 (tbCells (.slice a9 u.held.length c9) (.slice b9 u.wait.length d9)), .rd R9, .rd Rx, .rd Rv, .ob B512 25 (tbCells (.slice none 0 0) (.slice none 0 0)), .ob X16 25 (tbCells (.slice none 0 0) (.slice none 0 0))] w514) := HS514.out.pull [0, 1, 2, 3, 4, 5, 7, 6] rfl (pull_nd HS514.out.nd [0, 1, 2, 3, 4, 5, 7, 6] rfl (by decide))
                     clear HS514
                     exact N18 w514 B512 X16 ax cx bx dx Rx av cv bv dv Rv ⟨HS515, Hrdx, Hrdv, hHeld⟩
                  case node =>
                   rintro wd X14 X15 ax cx bx dx Rx ⟨HSn, Hrdx, hHeld⟩
                   refine wpAnyH_ready (rs := [7, 16]) (by kernel_rfl) (by simp) ?_
                   refine AllReadyH.cons (o := qLwRp8_15) rfl (fun K hK => ?_) (AllReadyH.cons (o := qLwRp8_14) rfl (fun K hK => ?_) (AllReadyH.nil))
                   ·go_simp
                    go_wp2_with (go_at_call 26; refine (tb_as H6.out (pcancel_any g.tx _ Hrd9.out ((HSn.out).reads 3 rfl) HU.out)).mono ?_; rintro e w514 ⟨h9, v9, Rv, rfl, hrd2, hin2, hnew2, hb⟩)
                    obtain ⟨av, cv, rfl, _, _⟩ := hrd2.1.shape
                    obtain ⟨bv, dv, rfl, _, _⟩ := hrd2.2.shape
                    have Hrdv := Lib.hid hrd2
                    have HS514 : Hid (Hp w [.cd C, .ob B21 29 (grCells g), .ob B23 25 (tbCells (.slice a9 u.held.length c9) (.slice b9 u.wait.length d9)), .rd R9, .rd Rx, .ob X14 25 (tbCells (.slice none 0 0) (.slice none 0 0)), .ob X15 25 (tbCells (.slice none 0 0) (.slice none 0 0)), .rd Rv] w514) := (HSn.out).addrd hb Rv hin2 (fun r hr => (hnew2 r hr).elim .inl (fun h => .inr ⟨.rd R9, List.mem_of_getElem? (i := 3) rfl, h⟩))
                    refine hK.out _ _ (⟨(fun j v hv => by rw [Nat.zero_add]; exact (HS514.out).at 2 rfl j hv), (fun j v hv => by rw [Nat.zero_add]; exact (HS514.out).at 1 rfl j hv)⟩) (fun hHeld => ?_)
                    clear hK K hb hin2 hrd2 hnew2
                    try simp only [z0, z1, z2, z3]
                    have HS515 : Hid (Hp w [.cd C, .ob B21 29 (grCells g), .ob B23 25 (tbCells (.slice a9 u.held.length c9) (.slice b9 u.wait.length d9)), .rd R9, .rd Rx, .rd Rv, .ob X14 25 (tbCells (.slice none 0 0) (.slice none 0 0)), .ob X15 25 (tbCells (.slice none 0 0) (.slice none 0 0))] w514) := HS514.out.pull [0, 1, 2, 3, 4, 7, 5, 6] rfl (pull_nd HS514.out.nd [0, 1, 2, 3, 4, 7, 5, 6] rfl (by decide))
                    clear HS514
                    exact N16 w514 X14 X15 ax cx bx dx Rx av cv bv dv Rv ⟨HS515, Hrdx, Hrdv, hHeld⟩
                   ·rw [if_pos (by rfl)]
                    refine wp_alloc_ob 25 (tbCells (.slice none 0 0) (.slice none 0 0)) rfl alloc_tb ?_
                    have HS514 : Hid (Hp w [.cd C, .ob B21 29 (grCells g), .ob B23 25 (tbCells (.slice a9 u.held.length c9) (.slice b9 u.wait.length d9)), .rd R9, .rd Rx, .ob X14 25 (tbCells (.slice none 0 0) (.slice none 0 0)), .ob X15 25 (tbCells (.slice none 0 0) (.slice none 0 0)), .ob (wd.heap.size) 25 (tbCells (.slice none 0 0) (.slice none 0 0))] (wd.alloc (.cells (tbCells (.slice none 0 0) (.slice none 0 0)).toArray 25))) := (HSn.out).put 25 (tbCells (.slice none 0 0) (.slice none 0 0))
                    refine hK.out _ _ (⟨(fun j v hv => by rw [Nat.zero_add]; exact (HS514.out).at 2 rfl j hv), (fun j v hv => by rw [Nat.zero_add]; exact (HS514.out).at 1 rfl j hv)⟩) (fun hHeld => ?_)
                    clear hK K
                    generalize (wd.alloc (.cells (tbCells (.slice none 0 0) (.slice none 0 0)).toArray 25)) = w514 at *
                    generalize wd.heap.size = B513 at *
                    try simp only [z0, z1, z2, z3]
                    exact N19 w514 X14 X15 B513 ax cx bx dx Rx ⟨HS514, Hrdx, hHeld⟩
                 case node =>
                  rintro wd X14 X16 ax cx bx dx Rx ⟨HSn, Hrdx, hHeld⟩
                  refine wpAnyH_ready (rs := [7, 15]) (by kernel_rfl) (by simp) ?_
                  refine AllReadyH.cons (o := qLwRp8_15) rfl (fun K hK => ?_) (AllReadyH.cons (o := qLwRp8_13) rfl (fun K hK => ?_) (AllReadyH.nil))
                  ·go_simp
                   go_wp2_with (go_at_call 26; refine (tb_as H6.out (pcancel_any g.tx _ Hrd9.out ((HSn.out).reads 3 rfl) HU.out)).mono ?_; rintro e w514 ⟨h9, v9, Rv, rfl, hrd2, hin2, hnew2, hb⟩)
                   obtain ⟨av, cv, rfl, _, _⟩ := hrd2.1.shape
                   obtain ⟨bv, dv, rfl, _, _⟩ := hrd2.2.shape
                   have Hrdv := Lib.hid hrd2
                   have HS514 : Hid (Hp w [.cd C, .ob B21 29 (grCells g), .ob B23 25 (tbCells (.slice a9 u.held.length c9) (.slice b9 u.wait.length d9)), .rd R9, .rd Rx, .ob X14 25 (tbCells (.slice none 0 0) (.slice none 0 0)), .ob X16 25 (tbCells (.slice none 0 0) (.slice none 0 0)), .rd Rv] w514) := (HSn.out).addrd hb Rv hin2 (fun r hr => (hnew2 r hr).elim .inl (fun h => .inr ⟨.rd R9, List.mem_of_getElem? (i := 3) rfl, h⟩))
                   refine hK.out _ _ (⟨(fun j v hv => by rw [Nat.zero_add]; exact (HS514.out).at 2 rfl j hv), (fun j v hv => by rw [Nat.zero_add]; exact (HS514.out).at 1 rfl j hv)⟩) (fun hHeld => ?_)
                   clear hK K hb hin2 hrd2 hnew2
                   try simp only [z0, z1, z2, z3]
                   have HS515 : Hid (Hp w [.cd C, .ob B21 29 (grCells g), .ob B23 25 (tbCells (.slice a9 u.held.length c9) (.slice b9 u.wait.length d9)), .rd R9, .rd Rx, .rd Rv, .ob X14 25 (tbCells (.slice none 0 0) (.slice none 0 0)), .ob X16 25 (tbCells (.slice none 0 0) (.slice none 0 0))] w514) := HS514.out.pull [0, 1, 2, 3, 4, 7, 5, 6] rfl (pull_nd HS514.out.nd [0, 1, 2, 3, 4, 7, 5, 6] rfl (by decide))
                   clear HS514
                   exact N17 w514 X14 X16 ax cx bx dx Rx av cv bv dv Rv ⟨HS515, Hrdx, Hrdv, hHeld⟩
                  ·rw [if_pos (by rfl)]
                   refine wp_alloc_ob 25 (tbCells (.slice none 0 0) (.slice none 0 0)) rfl alloc_tb ?_
                   have HS514 : Hid (Hp w [.cd C, .ob B21 29 (grCells g), .ob B23 25 (tbCells (.slice a9 u.held.length c9) (.slice b9 u.wait.length d9)), .rd R9, .rd Rx, .ob X14 25 (tbCells (.slice none 0 0) (.slice none 0 0)), .ob X16 25 (tbCells (.slice none 0 0) (.slice none 0 0)), .ob (wd.heap.size) 25 (tbCells (.slice none 0 0) (.slice none 0 0))] (wd.alloc (.cells (tbCells (.slice none 0 0) (.slice none 0 0)).toArray 25))) := (HSn.out).put 25 (tbCells (.slice none 0 0) (.slice none 0 0))
                   refine hK.out _ _ (⟨(fun j v hv => by rw [Nat.zero_add]; exact (HS514.out).at 2 rfl j hv), (fun j v hv => by rw [Nat.zero_add]; exact (HS514.out).at 1 rfl j hv)⟩) (fun hHeld => ?_)
                   clear hK K
                   generalize (wd.alloc (.cells (tbCells (.slice none 0 0) (.slice none 0 0)).toArray 25)) = w514 at *
                   generalize wd.heap.size = B513 at *
                   try simp only [z0, z1, z2, z3]
                   have HS515 : Hid (Hp w [.cd C, .ob B21 29 (grCells g), .ob B23 25 (tbCells (.slice a9 u.held.length c9) (.slice b9 u.wait.length d9)), .rd R9, .rd Rx, .ob X14 25 (tbCells (.slice none 0 0) (.slice none 0 0)), .ob B513 25 (tbCells (.slice none 0 0) (.slice none 0 0)), .ob X16 25 (tbCells (.slice none 0 0) (.slice none 0 0))] w514) := HS514.out.pull [0, 1, 2, 3, 4, 5, 7, 6] rfl (pull_nd HS514.out.nd [0, 1, 2, 3, 4, 5, 7, 6] rfl (by decide))
                   clear HS514
                   exact N19 w514 X14 B513 X16 ax cx bx dx Rx ⟨HS515, Hrdx, hHeld⟩
                case node =>
                 rintro wd X15 X16 ax cx bx dx Rx ⟨HSn, Hrdx, hHeld⟩
                 refine wpAnyH_ready (rs := [7, 14]) (by kernel_rfl) (by simp) ?_
                 refine AllReadyH.cons (o := qLwRp8_15) rfl (fun K hK => ?_) (AllReadyH.cons (o := qLwRp8_12) rfl (fun K hK => ?_) (AllReadyH.nil))
                 ·go_simp
                  go_wp2_with (go_at_call 26; refine (tb_as H6.out (pcancel_any g.tx _ Hrd9.out ((HSn.out).reads 3 rfl) HU.out)).mono ?_; rintro e w514 ⟨h9, v9, Rv, rfl, hrd2, hin2, hnew2, hb⟩)
                  obtain ⟨av, cv, rfl, _, _⟩ := hrd2.1.shape
                  obtain ⟨bv, dv, rfl, _, _⟩ := hrd2.2.shape
                  have Hrdv := Lib.hid hrd2
                  have HS514 : Hid (Hp w [.cd C, .ob B21 29 (grCells g), .ob B23 25 (tbCells (.slice a9 u.held.length c9) (.slice b9 u.wait.length d9)), .rd R9, .rd Rx, .ob X15 25 (tbCells (.slice none 0 0) (.slice none 0 0)), .ob X16 25 (tbCells (.slice none 0 0) (.slice none 0 0)), .rd Rv] w514) := (HSn.out).addrd hb Rv hin2 (fun r hr => (hnew2 r hr).elim .inl (fun h => .inr ⟨.rd R9, List.mem_of_getElem? (i := 3) rfl, h⟩))
                  refine hK.out _ _ (⟨(fun j v hv => by rw [Nat.zero_add]; exact (HS514.out).at 2 rfl j hv), (fun j v hv => by rw [Nat.zero_add]; exact (HS514.out).at 1 rfl j hv)⟩) (fun hHeld => ?_)
                  clear hK K hb hin2 hrd2 hnew2
                  try simp only [z0, z1, z2, z3]
                  have HS515 : Hid (Hp w [.cd C, .ob B21 29 (grCells g), .ob B23 25 (tbCells (.slice a9 u.held.length c9) (.slice b9 u.wait.length d9)), .rd R9, .rd Rx, .rd Rv, .ob X15 25 (tbCells (.slice none 0 0) (.slice none 0 0)), .ob X16 25 (tbCells (.slice none 0 0) (.slice none 0 0))] w514) := HS514.out.pull [0, 1, 2, 3, 4, 7, 5, 6] rfl (pull_nd HS514.out.nd [0, 1, 2, 3, 4, 7, 5, 6] rfl (by decide))
                  clear HS514
                  exact N18 w514 X15 X16 ax cx bx dx Rx av cv bv dv Rv ⟨HS515, Hrdx, Hrdv, hHeld⟩
                 ·rw [if_pos (by rfl)]
                  refine wp_alloc_ob 25 (tbCells (.slice none 0 0) (.slice none 0 0)) rfl alloc_tb ?_
                  have HS514 : Hid (Hp w [.cd C, .ob B21 29 (grCells g), .ob B23 25 (tbCells (.slice a9 u.held.length c9) (.slice b9 u.wait.length d9)), .rd R9, .rd Rx, .ob X15 25 (tbCells (.slice none 0 0) (.slice none 0 0)), .ob X16 25 (tbCells (.slice none 0 0) (.slice none 0 0)), .ob (wd.heap.size) 25 (tbCells (.slice none 0 0) (.slice none 0 0))] (wd.alloc (.cells (tbCells (.slice none 0 0) (.slice none 0 0)).toArray 25))) := (HSn.out).put 25 (tbCells (.slice none 0 0) (.slice none 0 0))
                  refine hK.out _ _ (⟨(fun j v hv => by rw [Nat.zero_add]; exact (HS514.out).at 2 rfl j hv), (fun j v hv => by rw [Nat.zero_add]; exact (HS514.out).at 1 rfl j hv)⟩) (fun hHeld => ?_)
                  clear hK K
                  generalize (wd.alloc (.cells (tbCells (.slice none 0 0) (.slice none 0 0)).toArray 25)) = w514 at *
                  generalize wd.heap.size = B513 at *
                  try simp only [z0, z1, z2, z3]
                  have HS515 : Hid (Hp w [.cd C, .ob B21 29 (grCells g), .ob B23 25 (tbCells (.slice a9 u.held.length c9) (.slice b9 u.wait.length d9)), .rd R9, .rd Rx, .ob B513 25 (tbCells (.slice none 0 0) (.slice none 0 0)), .ob X15 25 (tbCells (.slice none 0 0) (.slice none 0 0)), .ob X16 25 (tbCells (.slice none 0 0) (.slice none 0 0))] w514) := HS514.out.pull [0, 1, 2, 3, 4, 7, 5, 6] rfl (pull_nd HS514.out.nd [0, 1, 2, 3, 4, 7, 5, 6] rfl (by decide))
                  clear HS514
                  exact N19 w514 B513 X15 X16 ax cx bx dx Rx ⟨HS515, Hrdx, hHeld⟩
               case node =>
                rintro wd X14 X15 X16 ⟨HSn, hHeld⟩
                refine tn 3 qLwRp8_11 (fun K hK => ?_)
                go_simp
                go_wp2_with (go_at_call 28; refine (tb_as H5.out (prelease_any g.tx _ Hrd9.out ((HSn.out).reads 3 rfl) HU.out)).mono ?_; rintro e w514 ⟨h9, v9, Rx, rfl, hrd2, hin2, hnew2, hb⟩)
                obtain ⟨ax, cx, rfl, _, _⟩ := hrd2.1.shape
                obtain ⟨bx, dx, rfl, _, _⟩ := hrd2.2.shape
                have Hrdx := Lib.hid hrd2
                have HS514 : Hid (Hp w [.cd C, .ob B21 29 (grCells g), .ob B23 25 (tbCells (.slice a9 u.held.length c9) (.slice b9 u.wait.length d9)), .rd R9, .ob X14 25 (tbCells (.slice none 0 0) (.slice none 0 0)), .ob X15 25 (tbCells (.slice none 0 0) (.slice none 0 0)), .ob X16 25 (tbCells (.slice none 0 0) (.slice none 0 0)), .rd Rx] w514) := (HSn.out).addrd hb Rx hin2 (fun r hr => (hnew2 r hr).elim .inl (fun h => .inr ⟨.rd R9, List.mem_of_getElem? (i := 3) rfl, h⟩))
                refine hK.out _ _ (⟨(fun j v hv => by rw [Nat.zero_add]; exact (HS514.out).at 2 rfl j hv), (fun j v hv => by rw [Nat.zero_add]; exact (HS514.out).at 1 rfl j hv)⟩) (fun hHeld => ?_)
                clear hK K hb hin2 hrd2 hnew2
                try simp only [z0, z1, z2, z3]
                have HS515 : Hid (Hp w [.cd C, .ob B21 29 (grCells g), .ob B23 25 (tbCells (.slice a9 u.held.length c9) (.slice b9 u.wait.length d9)), .rd R9, .rd Rx, .ob X14 25 (tbCells (.slice none 0 0) (.slice none 0 0)), .ob X15 25 (tbCells (.slice none 0 0) (.slice none 0 0)), .ob X16 25 (tbCells (.slice none 0 0) (.slice none 0 0))] w514) := HS514.out.pull [0, 1, 2, 3, 7, 4, 5, 6] rfl (pull_nd HS514.out.nd [0, 1, 2, 3, 7, 4, 5, 6] rfl (by decide))
                clear HS514
                exact N19 w514 X14 X15 X16 ax cx bx dx Rx ⟨HS515, Hrdx, hHeld⟩
              case node =>
               rintro wd X14 ax cx bx dx Rx av cv bv dv Rv az cz bz dz Rz ⟨HSn, Hrdx, Hrdv, Hrdz, hHeld⟩
               refine wpAnyH_ready (rs := [15, 16]) (by kernel_rfl) (by simp) ?_
               refine AllReadyH.cons (o := qLwRp8_13) rfl (fun K hK => ?_) (AllReadyH.cons (o := qLwRp8_14) rfl (fun K hK => ?_) (AllReadyH.nil))
               ·rw [if_pos (by rfl)]
                refine wp_alloc_ob 25 (tbCells (.slice none 0 0) (.slice none 0 0)) rfl alloc_tb ?_
                have HS515 : Hid (Hp w [.cd C, .ob B21 29 (grCells g), .ob B23 25 (tbCells (.slice a9 u.held.length c9) (.slice b9 u.wait.length d9)), .rd R9, .rd Rx, .rd Rv, .rd Rz, .ob X14 25 (tbCells (.slice none 0 0) (.slice none 0 0)), .ob (wd.heap.size) 25 (tbCells (.slice none 0 0) (.slice none 0 0))] (wd.alloc (.cells (tbCells (.slice none 0 0) (.slice none 0 0)).toArray 25))) := (HSn.out).put 25 (tbCells (.slice none 0 0) (.slice none 0 0))
                refine hK.out _ _ (⟨(fun j v hv => by rw [Nat.zero_add]; exact (HS515.out).at 2 rfl j hv), (fun j v hv => by rw [Nat.zero_add]; exact (HS515.out).at 1 rfl j hv)⟩) (fun hHeld => ?_)
                clear hK K
                generalize (wd.alloc (.cells (tbCells (.slice none 0 0) (.slice none 0 0)).toArray 25)) = w515 at *
                generalize wd.heap.size = B512 at *
                try simp only [z0, z1, z2, z3]
                exact N20 w515 X14 B512 ax cx bx dx Rx av cv bv dv Rv az cz bz dz Rz ⟨HS515, Hrdx, Hrdv, Hrdz, hHeld⟩
               ·rw [if_pos (by rfl)]
                refine wp_alloc_ob 25 (tbCells (.slice none 0 0) (.slice none 0 0)) rfl alloc_tb ?_
                have HS515 : Hid (Hp w [.cd C, .ob B21 29 (grCells g), .ob B23 25 (tbCells (.slice a9 u.held.length c9) (.slice b9 u.wait.length d9)), .rd R9, .rd Rx, .rd Rv, .rd Rz, .ob X14 25 (tbCells (.slice none 0 0) (.slice none 0 0)), .ob (wd.heap.size) 25 (tbCells (.slice none 0 0) (.slice none 0 0))] (wd.alloc (.cells (tbCells (.slice none 0 0) (.slice none 0 0)).toArray 25))) := (HSn.out).put 25 (tbCells (.slice none 0 0) (.slice none 0 0))
                refine hK.out _ _ (⟨(fun j v hv => by rw [Nat.zero_add]; exact (HS515.out).at 2 rfl j hv), (fun j v hv => by rw [Nat.zero_add]; exact (HS515.out).at 1 rfl j hv)⟩) (fun hHeld => ?_)
                clear hK K
                generalize (wd.alloc (.cells (tbCells (.slice none 0 0) (.slice none 0 0)).toArray 25)) = w515 at *
                generalize wd.heap.size = B512 at *
                try simp only [z0, z1, z2, z3]
                exact N21 w515 X14 B512 ax cx bx dx Rx av cv bv dv Rv az cz bz dz Rz ⟨HS515, Hrdx, Hrdv, Hrdz, hHeld⟩
             case node =>
              rintro wd X15 ax cx bx dx Rx av cv bv dv Rv az cz bz dz Rz ⟨HSn, Hrdx, Hrdv, Hrdz, hHeld⟩
              refine wpAnyH_ready (rs := [14, 16]) (by kernel_rfl) (by simp) ?_
              refine AllReadyH.cons (o := qLwRp8_12) rfl (fun K hK => ?_) (AllReadyH.cons (o := qLwRp8_14) rfl (fun K hK => ?_) (AllReadyH.nil))
              ·rw [if_pos (by rfl)]
               refine wp_alloc_ob 25 (tbCells (.slice none 0 0) (.slice none 0 0)) rfl alloc_tb ?_
               have HS515 : Hid (Hp w [.cd C, .ob B21 29 (grCells g), .ob B23 25 (tbCells (.slice a9 u.held.length c9) (.slice b9 u.wait.length d9)), .rd R9, .rd Rx, .rd Rv, .rd Rz, .ob X15 25 (tbCells (.slice none 0 0) (.slice none 0 0)), .ob (wd.heap.size) 25 (tbCells (.slice none 0 0) (.slice none 0 0))] (wd.alloc (.cells (tbCells (.slice none 0 0) (.slice none 0 0)).toArray 25))) := (HSn.out).put 25 (tbCells (.slice none 0 0) (.slice none 0 0))
               refine hK.out _ _ (⟨(fun j v hv => by rw [Nat.zero_add]; exact (HS515.out).at 2 rfl j hv), (fun j v hv => by rw [Nat.zero_add]; exact (HS515.out).at 1 rfl j hv)⟩) (fun hHeld => ?_)
               clear hK K
               generalize (wd.alloc (.cells (tbCells (.slice none 0 0) (.slice none 0 0)).toArray 25)) = w515 at *
               generalize wd.heap.size = B512 at *
               try simp only [z0, z1, z2, z3]
               have HS516 : Hid (Hp w [.cd C, .ob B21 29 (grCells g), .ob B23 25 (tbCells (.slice a9 u.held.length c9) (.slice b9 u.wait.length d9)), .rd R9, .rd Rx, .rd Rv, .rd Rz, .ob B512 25 (tbCells (.slice none 0 0) (.slice none 0 0)), .ob X15 25 (tbCells (.slice none 0 0) (.slice none 0 0))] w515) := HS515.out.pull [0, 1, 2, 3, 4, 5, 6, 8, 7] rfl (pull_nd HS515.out.nd [0, 1, 2, 3, 4, 5, 6, 8, 7] rfl (by decide))
               clear HS515
               exact N20 w515 B512 X15 ax cx bx dx Rx av cv bv dv Rv az cz bz dz Rz ⟨HS516, Hrdx, Hrdv, Hrdz, hHeld⟩
              ·rw [if_pos (by rfl)]
               refine wp_alloc_ob 25 (tbCells (.slice none 0 0) (.slice none 0 0)) rfl alloc_tb ?_
               have HS515 : Hid (Hp w [.cd C, .ob B21 29 (grCells g), .ob B23 25 (tbCells (.slice a9 u.held.length c9) (.slice b9 u.wait.length d9)), .rd R9, .rd Rx, .rd Rv, .rd Rz, .ob X15 25 (tbCells (.slice none 0 0) (.slice none 0 0)), .ob (wd.heap.size) 25 (tbCells (.slice none 0 0) (.slice none 0 0))] (wd.alloc (.cells (tbCells (.slice none 0 0) (.slice none 0 0)).toArray 25))) := (HSn.out).put 25 (tbCells (.slice none 0 0) (.slice none 0 0))
               refine hK.out _ _ (⟨(fun j v hv => by rw [Nat.zero_add]; exact (HS515.out).at 2 rfl j hv), (fun j v hv => by rw [Nat.zero_add]; exact (HS515.out).at 1 rfl j hv)⟩) (fun hHeld => ?_)
               clear hK K
               generalize (wd.alloc (.cells (tbCells (.slice none 0 0) (.slice none 0 0)).toArray 25)) = w515 at *
               generalize wd.heap.size = B512 at *
               try simp only [z0, z1, z2, z3]
               exact N22 w515 X15 B512 ax cx bx dx Rx av cv bv dv Rv az cz bz dz Rz ⟨HS515, Hrdx, Hrdv, Hrdz, hHeld⟩
            case node =>
             rintro wd X16 ax cx bx dx Rx av cv bv dv Rv az cz bz dz Rz ⟨HSn, Hrdx, Hrdv, Hrdz, hHeld⟩
             refine wpAnyH_ready (rs := [14, 15]) (by kernel_rfl) (by simp) ?_
             refine AllReadyH.cons (o := qLwRp8_12) rfl (fun K hK => ?_) (AllReadyH.cons (o := qLwRp8_13) rfl (fun K hK => ?_) (AllReadyH.nil))
             ·rw [if_pos (by rfl)]
              refine wp_alloc_ob 25 (tbCells (.slice none 0 0) (.slice none 0 0)) rfl alloc_tb ?_
              have HS515 : Hid (Hp w [.cd C, .ob B21 29 (grCells g), .ob B23 25 (tbCells (.slice a9 u.held.length c9) (.slice b9 u.wait.length d9)), .rd R9, .rd Rx, .rd Rv, .rd Rz, .ob X16 25 (tbCells (.slice none 0 0) (.slice none 0 0)), .ob (wd.heap.size) 25 (tbCells (.slice none 0 0) (.slice none 0 0))] (wd.alloc (.cells (tbCells (.slice none 0 0) (.slice none 0 0)).toArray 25))) := (HSn.out).put 25 (tbCells (.slice none 0 0) (.slice none 0 0))
              refine hK.out _ _ (⟨(fun j v hv => by rw [Nat.zero_add]; exact (HS515.out).at 2 rfl j hv), (fun j v hv => by rw [Nat.zero_add]; exact (HS515.out).at 1 rfl j hv)⟩) (fun hHeld => ?_)
              clear hK K
              generalize (wd.alloc (.cells (tbCells (.slice none 0 0) (.slice none 0 0)).toArray 25)) = w515 at *
              generalize wd.heap.size = B512 at *
              try simp only [z0, z1, z2, z3]
              have HS516 : Hid (Hp w [.cd C, .ob B21 29 (grCells g), .ob B23 25 (tbCells (.slice a9 u.held.length c9) (.slice b9 u.wait.length d9)), .rd R9, .rd Rx, .rd Rv, .rd Rz, .ob B512 25 (tbCells (.slice none 0 0) (.slice none 0 0)), .ob X16 25 (tbCells (.slice none 0 0) (.slice none 0 0))] w515) := HS515.out.pull [0, 1, 2, 3, 4, 5, 6, 8, 7] rfl (pull_nd HS515.out.nd [0, 1, 2, 3, 4, 5, 6, 8, 7] rfl (by decide))
              clear HS515
              exact N21 w515 B512 X16 ax cx bx dx Rx av cv bv dv Rv az cz bz dz Rz ⟨HS516, Hrdx, Hrdv, Hrdz, hHeld⟩
             ·rw [if_pos (by rfl)]
              refine wp_alloc_ob 25 (tbCells (.slice none 0 0) (.slice none 0 0)) rfl alloc_tb ?_
              have HS515 : Hid (Hp w [.cd C, .ob B21 29 (grCells g), .ob B23 25 (tbCells (.slice a9 u.held.length c9) (.slice b9 u.wait.length d9)), .rd R9, .rd Rx, .rd Rv, .rd Rz, .ob X16 25 (tbCells (.slice none 0 0) (.slice none 0 0)), .ob (wd.heap.size) 25 (tbCells (.slice none 0 0) (.slice none 0 0))] (wd.alloc (.cells (tbCells (.slice none 0 0) (.slice none 0 0)).toArray 25))) := (HSn.out).put 25 (tbCells (.slice none 0 0) (.slice none 0 0))
              refine hK.out _ _ (⟨(fun j v hv => by rw [Nat.zero_add]; exact (HS515.out).at 2 rfl j hv), (fun j v hv => by rw [Nat.zero_add]; exact (HS515.out).at 1 rfl j hv)⟩) (fun hHeld => ?_)
              clear hK K
              generalize (wd.alloc (.cells (tbCells (.slice none 0 0) (.slice none 0 0)).toArray 25)) = w515 at *
              generalize wd.heap.size = B512 at *
              try simp only [z0, z1, z2, z3]
              have HS516 : Hid (Hp w [.cd C, .ob B21 29 (grCells g), .ob B23 25 (tbCells (.slice a9 u.held.length c9) (.slice b9 u.wait.length d9)), .rd R9, .rd Rx, .rd Rv, .rd Rz, .ob B512 25 (tbCells (.slice none 0 0) (.slice none 0 0)), .ob X16 25 (tbCells (.slice none 0 0) (.slice none 0 0))] w515) := HS515.out.pull [0, 1, 2, 3, 4, 5, 6, 8, 7] rfl (pull_nd HS515.out.nd [0, 1, 2, 3, 4, 5, 6, 8, 7] rfl (by decide))
              clear HS515
              exact N22 w515 B512 X16 ax cx bx dx Rx av cv bv dv Rv az cz bz dz Rz ⟨HS516, Hrdx, Hrdv, Hrdz, hHeld⟩
           case node =>
            rintro wd X14 X15 ax cx bx dx Rx av cv bv dv Rv ⟨HSn, Hrdx, Hrdv, hHeld⟩
            refine wpAnyH_ready (rs := [13, 16]) (by kernel_rfl) (by simp) ?_
            refine AllReadyH.cons (o := qLwRp8_16) rfl (fun K hK => ?_) (AllReadyH.cons (o := qLwRp8_14) rfl (fun K hK => ?_) (AllReadyH.nil))
            ·go_simp
             go_wp2_with (go_at_call 22; refine (tb_as H7.out (pdrop_any g.tx g.lock _ Hrd9.out ((HSn.out).reads 3 rfl) HU.out HG.out.lock)).mono ?_; rintro e w515 ⟨h9, v9, Rz, rfl, hrd2, hin2, hnew2, hb⟩)
             obtain ⟨az, cz, rfl, _, _⟩ := hrd2.1.shape
             obtain ⟨bz, dz, rfl, _, _⟩ := hrd2.2.shape
             have Hrdz := Lib.hid hrd2
             have HS515 : Hid (Hp w [.cd C, .ob B21 29 (grCells g), .ob B23 25 (tbCells (.slice a9 u.held.length c9) (.slice b9 u.wait.length d9)), .rd R9, .rd Rx, .rd Rv, .ob X14 25 (tbCells (.slice none 0 0) (.slice none 0 0)), .ob X15 25 (tbCells (.slice none 0 0) (.slice none 0 0)), .rd Rz] w515) := (HSn.out).addrd hb Rz hin2 (fun r hr => (hnew2 r hr).elim .inl (fun h => .inr ⟨.rd R9, List.mem_of_getElem? (i := 3) rfl, h⟩))
             refine hK.out _ _ (⟨(fun j v hv => by rw [Nat.zero_add]; exact (HS515.out).at 2 rfl j hv), (fun j v hv => by rw [Nat.zero_add]; exact (HS515.out).at 1 rfl j hv)⟩) (fun hHeld => ?_)
             clear hK K hb hin2 hrd2 hnew2
             try simp only [z0, z1, z2, z3]
             have HS516 : Hid (Hp w [.cd C, .ob B21 29 (grCells g), .ob B23 25 (tbCells (.slice a9 u.held.length c9) (.slice b9 u.wait.length d9)), .rd R9, .rd Rx, .rd Rv, .rd Rz, .ob X14 25 (tbCells (.slice none 0 0) (.slice none 0 0)), .ob X15 25 (tbCells (.slice none 0 0) (.slice none 0 0))] w515) := HS515.out.pull [0, 1, 2, 3, 4, 5, 8, 6, 7] rfl (pull_nd HS515.out.nd [0, 1, 2, 3, 4, 5, 8, 6, 7] rfl (by decide))
             clear HS515
             exact N20 w515 X14 X15 ax cx bx dx Rx av cv bv dv Rv az cz bz dz Rz ⟨HS516, Hrdx, Hrdv, Hrdz, hHeld⟩
            ·rw [if_pos (by rfl)]
             refine wp_alloc_ob 25 (tbCells (.slice none 0 0) (.slice none 0 0)) rfl alloc_tb ?_
             have HS515 : Hid (Hp w [.cd C, .ob B21 29 (grCells g), .ob B23 25 (tbCells (.slice a9 u.held.length c9) (.slice b9 u.wait.length d9)), .rd R9, .rd Rx, .rd Rv, .ob X14 25 (tbCells (.slice none 0 0) (.slice none 0 0)), .ob X15 25 (tbCells (.slice none 0 0) (.slice none 0 0)), .ob (wd.heap.size) 25 (tbCells (.slice none 0 0) (.slice none 0 0))] (wd.alloc (.cells (tbCells (.slice none 0 0) (.slice none 0 0)).toArray 25))) := (HSn.out).put 25 (tbCells (.slice none 0 0) (.slice none 0 0))
             refine hK.out _ _ (⟨(fun j v hv => by rw [Nat.zero_add]; exact (HS515.out).at 2 rfl j hv), (fun j v hv => by rw [Nat.zero_add]; exact (HS515.out).at 1 rfl j hv)⟩) (fun hHeld => ?_)
             clear hK K
             generalize (wd.alloc (.cells (tbCells (.slice none 0 0) (.slice none 0 0)).toArray 25)) = w515 at *
             generalize wd.heap.size = B513 at *
             try simp only [z0, z1, z2, z3]
             exact N23 w515 X14 X15 B513 ax cx bx dx Rx av cv bv dv Rv ⟨HS515, Hrdx, Hrdv, hHeld⟩
          case node =>
           rintro wd X14 X16 ax cx bx dx Rx av cv bv dv Rv ⟨HSn, Hrdx, Hrdv, hHeld⟩
           refine wpAnyH_ready (rs := [13, 15]) (by kernel_rfl) (by simp) ?_
           refine AllReadyH.cons (o := qLwRp8_16) rfl (fun K hK => ?_) (AllReadyH.cons (o := qLwRp8_13) rfl (fun K hK => ?_) (AllReadyH.nil))
           ·go_simp
            go_wp2_with (go_at_call 22; refine (tb_as H7.out (pdrop_any g.tx g.lock _ Hrd9.out ((HSn.out).reads 3 rfl) HU.out HG.out.lock)).mono ?_; rintro e w515 ⟨h9, v9, Rz, rfl, hrd2, hin2, hnew2, hb⟩)
            obtain ⟨az, cz, rfl, _, _⟩ := hrd2.1.shape
            obtain ⟨bz, dz, rfl, _, _⟩ := hrd2.2.shape
            have Hrdz := Lib.hid hrd2
            have HS515 : Hid (Hp w [.cd C, .ob B21 29 (grCells g), .ob B23 25 (tbCells (.slice a9 u.held.length c9) (.slice b9 u.wait.length d9)), .rd R9, .rd Rx, .rd Rv, .ob X14 25 (tbCells (.slice none 0 0) (.slice none 0 0)), .ob X16 25 (tbCells (.slice none 0 0) (.slice none 0 0)), .rd Rz] w515) := (HSn.out).addrd hb Rz hin2 (fun r hr => (hnew2 r hr).elim .inl (fun h => .inr ⟨.rd R9, List.mem_of_getElem? (i := 3) rfl, h⟩))
            refine hK.out _ _ (⟨(fun j v hv => by rw [Nat.zero_add]; exact (HS515.out).at 2 rfl j hv), (fun j v hv => by rw [Nat.zero_add]; exact (HS515.out).at 1 rfl j hv)⟩) (fun hHeld => ?_)
            clear hK K hb hin2 hrd2 hnew2
            try simp only [z0, z1, z2, z3]
            have HS516 : Hid (Hp w [.cd C, .ob B21 29 (grCells g), .ob B23 25 (tbCells (.slice a9 u.held.length c9) (.slice b9 u.wait.length d9)), .rd R9, .rd Rx, .rd Rv, .rd Rz, .ob X14 25 (tbCells (.slice none 0 0) (.slice none 0 0)), .ob X16 25 (tbCells (.slice none 0 0) (.slice none 0 0))] w515) := HS515.out.pull [0, 1, 2, 3, 4, 5, 8, 6, 7] rfl (pull_nd HS515.out.nd [0, 1, 2, 3, 4, 5, 8, 6, 7] rfl (by decide))
            clear HS515
            exact N21 w515 X14 X16 ax cx bx dx Rx av cv bv dv Rv az cz bz dz Rz ⟨HS516, Hrdx, Hrdv, Hrdz, hHeld⟩
           ·rw [if_pos (by rfl)]
            refine wp_alloc_ob 25 (tbCells (.slice none 0 0) (.slice none 0 0)) rfl alloc_tb ?_
            have HS515 : Hid (Hp w [.cd C, .ob B21 29 (grCells g), .ob B23 25 (tbCells (.slice a9 u.held.length c9) (.slice b9 u.wait.length d9)), .rd R9, .rd Rx, .rd Rv, .ob X14 25 (tbCells (.slice none 0 0) (.slice none 0 0)), .ob X16 25 (tbCells (.slice none 0 0) (.slice none 0 0)), .ob (wd.heap.size) 25 (tbCells (.slice none 0 0) (.slice none 0 0))] (wd.alloc (.cells (tbCells (.slice none 0 0) (.slice none 0 0)).toArray 25))) := (HSn.out).put 25 (tbCells (.slice none 0 0) (.slice none 0 0))
            refine hK.out _ _ (⟨(fun j v hv => by rw [Nat.zero_add]; exact (HS515.out).at 2 rfl j hv), (fun j v hv => by rw [Nat.zero_add]; exact (HS515.out).at 1 rfl j hv)⟩) (fun hHeld => ?_)
            clear hK K
            generalize (wd.alloc (.cells (tbCells (.slice none 0 0) (.slice none 0 0)).toArray 25)) = w515 at *
            generalize wd.heap.size = B513 at *
            try simp only [z0, z1, z2, z3]
            have HS516 : Hid (Hp w [.cd C, .ob B21 29 (grCells g), .ob B23 25 (tbCells (.slice a9 u.held.length c9) (.slice b9 u.wait.length d9)), .rd R9, .rd Rx, .rd Rv, .ob X14 25 (tbCells (.slice none 0 0) (.slice none 0 0)), .ob B513 25 (tbCells (.slice none 0 0) (.slice none 0 0)), .ob X16 25 (tbCells (.slice none 0 0) (.slice none 0 0))] w515) := HS515.out.pull [0, 1, 2, 3, 4, 5, 6, 8, 7] rfl (pull_nd HS515.out.nd [0, 1, 2, 3, 4, 5, 6, 8, 7] rfl (by decide))
            clear HS515
            exact N23 w515 X14 B513 X16 ax cx bx dx Rx av cv bv dv Rv ⟨HS516, Hrdx, Hrdv, hHeld⟩
         case node =>
          rintro wd X15 X16 ax cx bx dx Rx av cv bv dv Rv ⟨HSn, Hrdx, Hrdv, hHeld⟩
          refine wpAnyH_ready (rs := [13, 14]) (by kernel_rfl) (by simp) ?_
          refine AllReadyH.cons (o := qLwRp8_16) rfl (fun K hK => ?_) (AllReadyH.cons (o := qLwRp8_12) rfl (fun K hK => ?_) (AllReadyH.nil))
          ·go_simp
           go_wp2_with (go_at_call 22; refine (tb_as H7.out (pdrop_any g.tx g.lock _ Hrd9.out ((HSn.out).reads 3 rfl) HU.out HG.out.lock)).mono ?_; rintro e w515 ⟨h9, v9, Rz, rfl, hrd2, hin2, hnew2, hb⟩)
           obtain ⟨az, cz, rfl, _, _⟩ := hrd2.1.shape
           obtain ⟨bz, dz, rfl, _, _⟩ := hrd2.2.shape
           have Hrdz := Lib.hid hrd2
           have HS515 : Hid (Hp w [.cd C, .ob B21 29 (grCells g), .ob B23 25 (tbCells (.slice a9 u.held.length c9) (.slice b9 u.wait.length d9)), .rd R9, .rd Rx, .rd Rv, .ob X15 25 (tbCells (.slice none 0 0) (.slice none 0 0)), .ob X16 25 (tbCells (.slice none 0 0) (.slice none 0 0)), .rd Rz] w515) := (HSn.out).addrd hb Rz hin2 (fun r hr => (hnew2 r hr).elim .inl (fun h => .inr ⟨.rd R9, List.mem_of_getElem? (i := 3) rfl, h⟩))
           refine hK.out _ _ (⟨(fun j v hv => by rw [Nat.zero_add]; exact (HS515.out).at 2 rfl j hv), (fun j v hv => by rw [Nat.zero_add]; exact (HS515.out).at 1 rfl j hv)⟩) (fun hHeld => ?_)
           clear hK K hb hin2 hrd2 hnew2
           try simp only [z0, z1, z2, z3]
           have HS516 : Hid (Hp w [.cd C, .ob B21 29 (grCells g), .ob B23 25 (tbCells (.slice a9 u.held.length c9) (.slice b9 u.wait.length d9)), .rd R9, .rd Rx, .rd Rv, .rd Rz, .ob X15 25 (tbCells (.slice none 0 0) (.slice none 0 0)), .ob X16 25 (tbCells (.slice none 0 0) (.slice none 0 0))] w515) := HS515.out.pull [0, 1, 2, 3, 4, 5, 8, 6, 7] rfl (pull_nd HS515.out.nd [0, 1, 2, 3, 4, 5, 8, 6, 7] rfl (by decide))
           clear HS515
           exact N22 w515 X15 X16 ax cx bx dx Rx av cv bv dv Rv az cz bz dz Rz ⟨HS516, Hrdx, Hrdv, Hrdz, hHeld⟩
          ·rw [if_pos (by rfl)]
           refine wp_alloc_ob 25 (tbCells (.slice none 0 0) (.slice none 0 0)) rfl alloc_tb ?_
           have HS515 : Hid (Hp w [.cd C, .ob B21 29 (grCells g), .ob B23 25 (tbCells (.slice a9 u.held.length c9) (.slice b9 u.wait.length d9)), .rd R9, .rd Rx, .rd Rv, .ob X15 25 (tbCells (.slice none 0 0) (.slice none 0 0)), .ob X16 25 (tbCells (.slice none 0 0) (.slice none 0 0)), .ob (wd.heap.size) 25 (tbCells (.slice none 0 0) (.slice none 0 0))] (wd.alloc (.cells (tbCells (.slice none 0 0) (.slice none 0 0)).toArray 25))) := (HSn.out).put 25 (tbCells (.slice none 0 0) (.slice none 0 0))
           refine hK.out _ _ (⟨(fun j v hv => by rw [Nat.zero_add]; exact (HS515.out).at 2 rfl j hv), (fun j v hv => by rw [Nat.zero_add]; exact (HS515.out).at 1 rfl j hv)⟩) (fun hHeld => ?_)
           clear hK K
           generalize (wd.alloc (.cells (tbCells (.slice none 0 0) (.slice none 0 0)).toArray 25)) = w515 at *
           generalize wd.heap.size = B513 at *
           try simp only [z0, z1, z2, z3]
           have HS516 : Hid (Hp w [.cd C, .ob B21 29 (grCells g), .ob B23 25 (tbCells (.slice a9 u.held.length c9) (.slice b9 u.wait.length d9)), .rd R9, .rd Rx, .rd Rv, .ob B513 25 (tbCells (.slice none 0 0) (.slice none 0 0)), .ob X15 25 (tbCells (.slice none 0 0) (.slice none 0 0)), .ob X16 25 (tbCells (.slice none 0 0) (.slice none 0 0))] w515) := HS515.out.pull [0, 1, 2, 3, 4, 5, 8, 6, 7] rfl (pull_nd HS515.out.nd [0, 1, 2, 3, 4, 5, 8, 6, 7] rfl (by decide))
           clear HS515
           exact N23 w515 B513 X15 X16 ax cx bx dx Rx av cv bv dv Rv ⟨HS516, Hrdx, Hrdv, hHeld⟩
        case node =>
         rintro wd X14 X15 X16 ax cx bx dx Rx ⟨HSn, Hrdx, hHeld⟩
         refine tn 7 qLwRp8_15 (fun K hK => ?_)
         go_simp
         go_wp2_with (go_at_call 26; refine (tb_as H6.out (pcancel_any g.tx _ Hrd9.out ((HSn.out).reads 3 rfl) HU.out)).mono ?_; rintro e w515 ⟨h9, v9, Rv, rfl, hrd2, hin2, hnew2, hb⟩)
         obtain ⟨av, cv, rfl, _, _⟩ := hrd2.1.shape
         obtain ⟨bv, dv, rfl, _, _⟩ := hrd2.2.shape
         have Hrdv := Lib.hid hrd2
         have HS515 : Hid (Hp w [.cd C, .ob B21 29 (grCells g), .ob B23 25 (tbCells (.slice a9 u.held.length c9) (.slice b9 u.wait.length d9)), .rd R9, .rd Rx, .ob X14 25 (tbCells (.slice none 0 0) (.slice none 0 0)), .ob X15 25 (tbCells (.slice none 0 0) (.slice none 0 0)), .ob X16 25 (tbCells (.slice none 0 0) (.slice none 0 0)), .rd Rv] w515) := (HSn.out).addrd hb Rv hin2 (fun r hr => (hnew2 r hr).elim .inl (fun h => .inr ⟨.rd R9, List.mem_of_getElem? (i := 3) rfl, h⟩))
         refine hK.out _ _ (⟨(fun j v hv => by rw [Nat.zero_add]; exact (HS515.out).at 2 rfl j hv), (fun j v hv => by rw [Nat.zero_add]; exact (HS515.out).at 1 rfl j hv)⟩) (fun hHeld => ?_)
         clear hK K hb hin2 hrd2 hnew2
         try simp only [z0, z1, z2, z3]
         have HS516 : Hid (Hp w [.cd C, .ob B21 29 (grCells g), .ob B23 25 (tbCells (.slice a9 u.held.length c9) (.slice b9 u.wait.length d9)), .rd R9, .rd Rx, .rd Rv, .ob X14 25 (tbCells (.slice none 0 0) (.slice none 0 0)), .ob X15 25 (tbCells (.slice none 0 0) (.slice none 0 0)), .ob X16 25 (tbCells (.slice none 0 0) (.slice none 0 0))] w515) := HS515.out.pull [0, 1, 2, 3, 4, 8, 5, 6, 7] rfl (pull_nd HS515.out.nd [0, 1, 2, 3, 4, 8, 5, 6, 7] rfl (by decide))
         clear HS515
         exact N23 w515 X14 X15 X16 ax cx bx dx Rx av cv bv dv Rv ⟨HS516, Hrdx, Hrdv, hHeld⟩
       case node =>
        rintro wd X14 X15 ax cx bx dx Rx av cv bv dv Rv az cz bz dz Rz ⟨HSn, Hrdx, Hrdv, Hrdz, hHeld⟩
        refine tn 16 qLwRp8_14 (fun K hK => ?_)
        rw [if_pos (by rfl)]
        refine wp_alloc_ob 25 (tbCells (.slice none 0 0) (.slice none 0 0)) rfl alloc_tb ?_
        have HS516 : Hid (Hp w [.cd C, .ob B21 29 (grCells g), .ob B23 25 (tbCells (.slice a9 u.held.length c9) (.slice b9 u.wait.length d9)), .rd R9, .rd Rx, .rd Rv, .rd Rz, .ob X14 25 (tbCells (.slice none 0 0) (.slice none 0 0)), .ob X15 25 (tbCells (.slice none 0 0) (.slice none 0 0)), .ob (wd.heap.size) 25 (tbCells (.slice none 0 0) (.slice none 0 0))] (wd.alloc (.cells (tbCells (.slice none 0 0) (.slice none 0 0)).toArray 25))) := (HSn.out).put 25 (tbCells (.slice none 0 0) (.slice none 0 0))
        refine hK.out _ _ (⟨(fun j v hv => by rw [Nat.zero_add]; exact (HS516.out).at 2 rfl j hv), (fun j v hv => by rw [Nat.zero_add]; exact (HS516.out).at 1 rfl j hv)⟩) (fun hHeld => ?_)
        clear hK K
        generalize (wd.alloc (.cells (tbCells (.slice none 0 0) (.slice none 0 0)).toArray 25)) = w516 at *
        generalize wd.heap.size = B513 at *
        try simp only [z0, z1, z2, z3]
        exact N24 w516 X14 X15 B513 ax cx bx dx Rx av cv bv dv Rv az cz bz dz Rz ⟨HS516, Hrdx, Hrdv, Hrdz, hHeld⟩
      case node =>
       rintro wd X14 X16 ax cx bx dx Rx av cv bv dv Rv az cz bz dz Rz ⟨HSn, Hrdx, Hrdv, Hrdz, hHeld⟩
       refine tn 15 qLwRp8_13 (fun K hK => ?_)
       rw [if_pos (by rfl)]
       refine wp_alloc_ob 25 (tbCells (.slice none 0 0) (.slice none 0 0)) rfl alloc_tb ?_
       have HS516 : Hid (Hp w [.cd C, .ob B21 29 (grCells g), .ob B23 25 (tbCells (.slice a9 u.held.length c9) (.slice b9 u.wait.length d9)), .rd R9, .rd Rx, .rd Rv, .rd Rz, .ob X14 25 (tbCells (.slice none 0 0) (.slice none 0 0)), .ob X16 25 (tbCells (.slice none 0 0) (.slice none 0 0)), .ob (wd.heap.size) 25 (tbCells (.slice none 0 0) (.slice none 0 0))] (wd.alloc (.cells (tbCells (.slice none 0 0) (.slice none 0 0)).toArray 25))) := (HSn.out).put 25 (tbCells (.slice none 0 0) (.slice none 0 0))
       refine hK.out _ _ (⟨(fun j v hv => by rw [Nat.zero_add]; exact (HS516.out).at 2 rfl j hv), (fun j v hv => by rw [Nat.zero_add]; exact (HS516.out).at 1 rfl j hv)⟩) (fun hHeld => ?_)
       clear hK K
       generalize (wd.alloc (.cells (tbCells (.slice none 0 0) (.slice none 0 0)).toArray 25)) = w516 at *
       generalize wd.heap.size = B513 at *
       try simp only [z0, z1, z2, z3]
       have HS517 : Hid (Hp w [.cd C, .ob B21 29 (grCells g), .ob B23 25 (tbCells (.slice a9 u.held.length c9) (.slice b9 u.wait.length d9)), .rd R9, .rd Rx, .rd Rv, .rd Rz, .ob X14 25 (tbCells (.slice none 0 0) (.slice none 0 0)), .ob B513 25 (tbCells (.slice none 0 0) (.slice none 0 0)), .ob X16 25 (tbCells (.slice none 0 0) (.slice none 0 0))] w516) := HS516.out.pull [0, 1, 2, 3, 4, 5, 6, 7, 9, 8] rfl (pull_nd HS516.out.nd [0, 1, 2, 3, 4, 5, 6, 7, 9, 8] rfl (by decide))
       clear HS516
       exact N24 w516 X14 B513 X16 ax cx bx dx Rx av cv bv dv Rv az cz bz dz Rz ⟨HS517, Hrdx, Hrdv, Hrdz, hHeld⟩
     case node =>
      rintro wd X15 X16 ax cx bx dx Rx av cv bv dv Rv az cz bz dz Rz ⟨HSn, Hrdx, Hrdv, Hrdz, hHeld⟩
      refine tn 14 qLwRp8_12 (fun K hK => ?_)
      rw [if_pos (by rfl)]
      refine wp_alloc_ob 25 (tbCells (.slice none 0 0) (.slice none 0 0)) rfl alloc_tb ?_
      have HS516 : Hid (Hp w [.cd C, .ob B21 29 (grCells g), .ob B23 25 (tbCells (.slice a9 u.held.length c9) (.slice b9 u.wait.length d9)), .rd R9, .rd Rx, .rd Rv, .rd Rz, .ob X15 25 (tbCells (.slice none 0 0) (.slice none 0 0)), .ob X16 25 (tbCells (.slice none 0 0) (.slice none 0 0)), .ob (wd.heap.size) 25 (tbCells (.slice none 0 0) (.slice none 0 0))] (wd.alloc (.cells (tbCells (.slice none 0 0) (.slice none 0 0)).toArray 25))) := (HSn.out).put 25 (tbCells (.slice none 0 0) (.slice none 0 0))
      refine hK.out _ _ (⟨(fun j v hv => by rw [Nat.zero_add]; exact (HS516.out).at 2 rfl j hv), (fun j v hv => by rw [Nat.zero_add]; exact (HS516.out).at 1 rfl j hv)⟩) (fun hHeld => ?_)
      clear hK K
      generalize (wd.alloc (.cells (tbCells (.slice none 0 0) (.slice none 0 0)).toArray 25)) = w516 at *
      generalize wd.heap.size = B513 at *
      try simp only [z0, z1, z2, z3]
      have HS517 : Hid (Hp w [.cd C, .ob B21 29 (grCells g), .ob B23 25 (tbCells (.slice a9 u.held.length c9) (.slice b9 u.wait.length d9)), .rd R9, .rd Rx, .rd Rv, .rd Rz, .ob B513 25 (tbCells (.slice none 0 0) (.slice none 0 0)), .ob X15 25 (tbCells (.slice none 0 0) (.slice none 0 0)), .ob X16 25 (tbCells (.slice none 0 0) (.slice none 0 0))] w516) := HS516.out.pull [0, 1, 2, 3, 4, 5, 6, 9, 7, 8] rfl (pull_nd HS516.out.nd [0, 1, 2, 3, 4, 5, 6, 9, 7, 8] rfl (by decide))
      clear HS516
      exact N24 w516 B513 X15 X16 ax cx bx dx Rx av cv bv dv Rv az cz bz dz Rz ⟨HS517, Hrdx, Hrdv, Hrdz, hHeld⟩
    case node =>
     rintro wd X14 X15 X16 ax cx bx dx Rx av cv bv dv Rv ⟨HSn, Hrdx, Hrdv, hHeld⟩
     refine tn 13 qLwRp8_16 (fun K hK => ?_)
     go_simp
     go_wp2_with (go_at_call 22; refine (tb_as H7.out (pdrop_any g.tx g.lock _ Hrd9.out ((HSn.out).reads 3 rfl) HU.out HG.out.lock)).mono ?_; rintro e w516 ⟨h9, v9, Rz, rfl, hrd2, hin2, hnew2, hb⟩)
     obtain ⟨az, cz, rfl, _, _⟩ := hrd2.1.shape
     obtain ⟨bz, dz, rfl, _, _⟩ := hrd2.2.shape
     have Hrdz := Lib.hid hrd2
     have HS516 : Hid (Hp w [.cd C, .ob B21 29 (grCells g), .ob B23 25 (tbCells (.slice a9 u.held.length c9) (.slice b9 u.wait.length d9)), .rd R9, .rd Rx, .rd Rv, .ob X14 25 (tbCells (.slice none 0 0) (.slice none 0 0)), .ob X15 25 (tbCells (.slice none 0 0) (.slice none 0 0)), .ob X16 25 (tbCells (.slice none 0 0) (.slice none 0 0)), .rd Rz] w516) := (HSn.out).addrd hb Rz hin2 (fun r hr => (hnew2 r hr).elim .inl (fun h => .inr ⟨.rd R9, List.mem_of_getElem? (i := 3) rfl, h⟩))
     refine hK.out _ _ (⟨(fun j v hv => by rw [Nat.zero_add]; exact (HS516.out).at 2 rfl j hv), (fun j v hv => by rw [Nat.zero_add]; exact (HS516.out).at 1 rfl j hv)⟩) (fun hHeld => ?_)
     clear hK K hb hin2 hrd2 hnew2
     try simp only [z0, z1, z2, z3]
     have HS517 : Hid (Hp w [.cd C, .ob B21 29 (grCells g), .ob B23 25 (tbCells (.slice a9 u.held.length c9) (.slice b9 u.wait.length d9)), .rd R9, .rd Rx, .rd Rv, .rd Rz, .ob X14 25 (tbCells (.slice none 0 0) (.slice none 0 0)), .ob X15 25 (tbCells (.slice none 0 0) (.slice none 0 0)), .ob X16 25 (tbCells (.slice none 0 0) (.slice none 0 0))] w516) := HS516.out.pull [0, 1, 2, 3, 4, 5, 9, 6, 7, 8] rfl (pull_nd HS516.out.nd [0, 1, 2, 3, 4, 5, 9, 6, 7, 8] rfl (by decide))
     clear HS516
     exact N24 w516 X14 X15 X16 ax cx bx dx Rx av cv bv dv Rv az cz bz dz Rz ⟨HS517, Hrdx, Hrdv, Hrdz, hHeld⟩
   case node =>
    rintro wd X14 X15 X16 ax cx bx dx Rx av cv bv dv Rv az cz bz dz Rz ⟨HSn, Hrdx, Hrdv, Hrdz, hHeld⟩
    refine tn 17 qLwRp8_17 (fun K hK => ?_)
    rw [if_pos (by rfl)]
    refine wp_store_ob 25 (.tmp 16) (.tmp 83) X14 (tbCells (.slice ax x.held.length cx) (.slice bx x.wait.length dx)) (tbCells (.slice none 0 0) (.slice none 0 0)) 25 rfl rfl rfl rfl ((HSn.out).get 7 rfl) (info_tb) (rfl) ((oneCell_tb _ _ _ _ _ _)) ?_
    have HS517 : Hid (Hp w [.cd C, .ob B21 29 (grCells g), .ob B23 25 (tbCells (.slice a9 u.held.length c9) (.slice b9 u.wait.length d9)), .rd R9, .rd Rx, .rd Rv, .rd Rz, .ob X14 25 (tbCells (.slice ax x.held.length cx) (.slice bx x.wait.length dx)), .ob X15 25 (tbCells (.slice none 0 0) (.slice none 0 0)), .ob X16 25 (tbCells (.slice none 0 0) (.slice none 0 0))] (wd.setRow X14 (tbCells (.slice ax x.held.length cx) (.slice bx x.wait.length dx)).toArray)) := (HSn.out).row 7 rfl (tbCells (.slice ax x.held.length cx) (.slice bx x.wait.length dx))
    refine hK.out _ _ (⟨(fun j v hv => by rw [Nat.zero_add]; exact (HS517.out).at 2 rfl j hv), (fun j v hv => by rw [Nat.zero_add]; exact (HS517.out).at 1 rfl j hv)⟩) (fun hHeld => ?_)
    clear hK K
    generalize (wd.setRow X14 (tbCells (.slice ax x.held.length cx) (.slice bx x.wait.length dx)).toArray) = w517 at *
    try simp only [z0, z1, z2, z3]
    refine tn 18 qLwRp8_18 (fun K hK => ?_)
    rw [if_pos (by rfl)]
    refine wp_store_ob 25 (.tmp 17) (.tmp 87) X15 (tbCells (.slice av y.held.length cv) (.slice bv y.wait.length dv)) (tbCells (.slice none 0 0) (.slice none 0 0)) 25 rfl rfl rfl rfl ((HS517.out).get 8 rfl) (info_tb) (rfl) ((oneCell_tb _ _ _ _ _ _)) ?_
    have HS518 : Hid (Hp w [.cd C, .ob B21 29 (grCells g), .ob B23 25 (tbCells (.slice a9 u.held.length c9) (.slice b9 u.wait.length d9)), .rd R9, .rd Rx, .rd Rv, .rd Rz, .ob X14 25 (tbCells (.slice ax x.held.length cx) (.slice bx x.wait.length dx)), .ob X15 25 (tbCells (.slice av y.held.length cv) (.slice bv y.wait.length dv)), .ob X16 25 (tbCells (.slice none 0 0) (.slice none 0 0))] (w517.setRow X15 (tbCells (.slice av y.held.length cv) (.slice bv y.wait.length dv)).toArray)) := (HS517.out).row 8 rfl (tbCells (.slice av y.held.length cv) (.slice bv y.wait.length dv))
    refine hK.out _ _ (⟨(fun j v hv => by rw [Nat.zero_add]; exact (HS518.out).at 2 rfl j hv), (fun j v hv => by rw [Nat.zero_add]; exact (HS518.out).at 1 rfl j hv)⟩) (fun hHeld => ?_)
    clear hK K
    generalize (w517.setRow X15 (tbCells (.slice av y.held.length cv) (.slice bv y.wait.length dv)).toArray) = w518 at *
    try simp only [z0, z1, z2, z3]
    refine tn 19 qLwRp8_19 (fun K hK => ?_)
    rw [if_pos (by rfl)]
    refine wp_store_ob 25 (.tmp 18) (.tmp 93) X16 (tbCells (.slice az z.held.length cz) (.slice bz z.wait.length dz)) (tbCells (.slice none 0 0) (.slice none 0 0)) 25 rfl rfl rfl rfl ((HS518.out).get 9 rfl) (info_tb) (rfl) ((oneCell_tb _ _ _ _ _ _)) ?_
    have HS519 : Hid (Hp w [.cd C, .ob B21 29 (grCells g), .ob B23 25 (tbCells (.slice a9 u.held.length c9) (.slice b9 u.wait.length d9)), .rd R9, .rd Rx, .rd Rv, .rd Rz, .ob X14 25 (tbCells (.slice ax x.held.length cx) (.slice bx x.wait.length dx)), .ob X15 25 (tbCells (.slice av y.held.length cv) (.slice bv y.wait.length dv)), .ob X16 25 (tbCells (.slice az z.held.length cz) (.slice bz z.wait.length dz))] (w518.setRow X16 (tbCells (.slice az z.held.length cz) (.slice bz z.wait.length dz)).toArray)) := (HS518.out).row 9 rfl (tbCells (.slice az z.held.length cz) (.slice bz z.wait.length dz))
    refine hK.out _ _ (⟨(fun j v hv => by rw [Nat.zero_add]; exact (HS519.out).at 2 rfl j hv), (fun j v hv => by rw [Nat.zero_add]; exact (HS519.out).at 1 rfl j hv)⟩) (fun hHeld => ?_)
    clear hK K
    generalize (w518.setRow X16 (tbCells (.slice az z.held.length cz) (.slice bz z.wait.length dz)).toArray) = w519 at *
    try simp only [z0, z1, z2, z3]
    refine wpAnyH_done (by kernel_rfl) ?_ _
    clear hHeld
    have HS520 : Hid (Hp w [.cd C, .ob B21 29 (grCells g), .ob X14 25 (tbCells (.slice ax x.held.length cx) (.slice bx x.wait.length dx)), .ob X15 25 (tbCells (.slice av y.held.length cv) (.slice bv y.wait.length dv)), .ob X16 25 (tbCells (.slice az z.held.length cz) (.slice bz z.wait.length dz)), .rd Rx, .rd Rv, .rd Rz] w519) := HS519.out.pull [0, 1, 7, 8, 9, 4, 5, 6] rfl (pull_nd HS519.out.nd [0, 1, 7, 8, 9, 4, 5, 6] rfl (by decide))
    clear HS519
    have HMo : Hid (∀ W, RdIn W Rx → Calls Try.prog 20 #[.agg (tbCells (.slice ax x.held.length cx) (.slice bx x.wait.length dx)).toArray, .int .i64 g.tx, .agg (lkCells g.lock).toArray] W fun e w' => e = .returned (.int .i64 0) ∧ Below W.heap.size W w') := Lib.hid (fun W h => by have := pMode_any g.tx g.lock W Hrdx.out h HXg.out HG.out.lock; rwa [H14.out] at this)
    have HVa : Hid (∀ W, RdIn W Rz → Calls Try.prog 12 #[.agg (tbCells (.slice az z.held.length cz) (.slice bz z.wait.length dz)).toArray] W fun e w' => e = .returned (.bool true) ∧ Below W.heap.size W w') := Lib.hid (fun W h => by have := plkvalid_any W Hrdz.out h HZo.out.good; rwa [tbOkB_iff.2 HZo.out] at this)
    go_upto_region 18 with (fail)
    cases bb
    case false =>
     refine wp_region_held_drew (S := fun w' => w'.rangeAt B21 0 (grCells g) ∧ w'.rangeAt X14 0 (tbCells (.slice ax x.held.length cx) (.slice bx x.wait.length dx)) ∧ w'.rangeAt X15 0 (tbCells (.slice av y.held.length cv) (.slice bv y.wait.length dv)) ∧ w'.rangeAt X16 0 (tbCells (.slice az z.held.length cz) (.slice bz z.wait.length dz))) (by kernel_rfl) (⟨(fun j v hv => by rw [Nat.zero_add]; exact ((HS520.out).drew).at 1 rfl j hv), (fun j v hv => by rw [Nat.zero_add]; exact ((HS520.out).drew).at 2 rfl j hv), (fun j v hv => by rw [Nat.zero_add]; exact ((HS520.out).drew).at 3 rfl j hv), (fun j v hv => by rw [Nat.zero_add]; exact ((HS520.out).drew).at 4 rfl j hv)⟩) (fun hHeld => ?_)
     refine tk 0 qLwRp8_20 (some 94) (yieldsIf_load_mid (by rfl) 25 (.tmp 16) rfl X14 (0) rfl (tbCells (.slice ax x.held.length cx) (.slice bx x.wait.length dx)) _ (fun _ h => h.2.1) HUT.out rfl (info_tb)) hHeld ?_
     try simp only [z0, z1, z2, z3]
     refine tk 1 qLwRp8_21 (some 95) (v := ?q47313v) (Or.inl ⟨by rfl, ?q47313h⟩) hHeld ?q47313r
     case q47313h => (intro wq hSw; clear hSw; go_simp; try with_reducible rfl)
     try simp only [z0, z1, z2, z3]
     refine tk 2 qLwRp8_22 (some 96) (v := .int .i64 g.tx) (Or.inl ⟨by rfl, ?q47314h⟩) hHeld ?q47314r
     case q47314h => (intro wq hSw; have lq := (hSw.1) 0 (.int .i64 g.tx) rfl; simp only [Nat.zero_add] at lq; clear hSw; go_simp; try with_reducible rfl)
     try simp only [z0, z1, z2, z3]
     refine tk 4 qLwRp8_23 (some 98) (yieldsIf_load_mid (by rfl) 25 (.tmp 16) rfl X14 (0) rfl (tbCells (.slice ax x.held.length cx) (.slice bx x.wait.length dx)) _ (fun _ h => h.2.1) HUT.out rfl (info_tb)) hHeld ?_
     try simp only [z0, z1, z2, z3]
     refine tn 3 qLwRp8_24 (fun K hK => ?_)
     go_simp
     go_wp2_with (go_at_call 28; refine (tb_as H11.out (prelease_any g.tx _ Hrdx.out (((HS520.out).drew).reads 5 rfl) HXg.out)).mono ?_; rintro e w520 ⟨h9, v9, Rl, rfl, hrd2, hin2, hnew2, hb⟩)
     obtain ⟨al, cl, rfl, _, _⟩ := hrd2.1.shape
     obtain ⟨bl, dl, rfl, _, _⟩ := hrd2.2.shape
     have Hrdl := Lib.hid hrd2
     have HS521 : Hid (Hp w [.cd C, .ob B21 29 (grCells g), .ob X14 25 (tbCells (.slice ax x.held.length cx) (.slice bx x.wait.length dx)), .ob X15 25 (tbCells (.slice av y.held.length cv) (.slice bv y.wait.length dv)), .ob X16 25 (tbCells (.slice az z.held.length cz) (.slice bz z.wait.length dz)), .rd Rx, .rd Rv, .rd Rz, .rd Rl] w520) := ((HS520.out).drew).addrd hb Rl hin2 (fun r hr => (hnew2 r hr).elim .inl (fun h => .inr ⟨.rd Rx, List.mem_of_getElem? (i := 5) rfl, h⟩))
     refine hK.out _ _ (⟨(fun j v hv => by rw [Nat.zero_add]; exact (HS521.out).at 1 rfl j hv), (fun j v hv => by rw [Nat.zero_add]; exact (HS521.out).at 2 rfl j hv), (fun j v hv => by rw [Nat.zero_add]; exact (HS521.out).at 3 rfl j hv), (fun j v hv => by rw [Nat.zero_add]; exact (HS521.out).at 4 rfl j hv)⟩) (fun hHeld => ?_)
     clear hK K hb hin2 hrd2 hnew2
     try simp only [z0, z1, z2, z3]
     refine tn 5 qLwRp8_25 (fun K hK => ?_)
     go_simp
     go_wp2_with (go_at_call 19; refine (rSame_tb _ Hrdl.out ((HS521.out).reads 8 rfl) Hrdx.out ((HS521.out).reads 5 rfl) HXg.out).mono ?_; rintro e w521 ⟨rfl, hb⟩)
     have HS522 := Lib.hid ((HS521.out).calls hb)
     refine hK.out _ _ (⟨(fun j v hv => by rw [Nat.zero_add]; exact (HS522.out).at 1 rfl j hv), (fun j v hv => by rw [Nat.zero_add]; exact (HS522.out).at 2 rfl j hv), (fun j v hv => by rw [Nat.zero_add]; exact (HS522.out).at 3 rfl j hv), (fun j v hv => by rw [Nat.zero_add]; exact (HS522.out).at 4 rfl j hv)⟩) (fun hHeld => ?_)
     clear hK K hb
     try simp only [z0, z1, z2, z3]
     refine tk 6 qLwRp8_26 (some 100) (v := ?q47316v) (Or.inl ⟨by rfl, ?q47316h⟩) hHeld ?q47316r
     case q47316h => (intro wq hSw; clear hSw; go_simp; try with_reducible rfl)
     try simp only [z0, z1, z2, z3]
     refine tk 7 qLwRp8_27 (some 101) (yieldsIf_load_mid (by rfl) 25 (.tmp 17) rfl X15 (0) rfl (tbCells (.slice av y.held.length cv) (.slice bv y.wait.length dv)) _ (fun _ h => h.2.2.1) HUT.out rfl (info_tb)) hHeld ?_
     try simp only [z0, z1, z2, z3]
     refine tk 8 qLwRp8_28 (some 102) (v := ?q47318v) (Or.inl ⟨by rfl, ?q47318h⟩) hHeld ?q47318r
     case q47318h => (intro wq hSw; clear hSw; go_simp; try with_reducible rfl)
     try simp only [z0, z1, z2, z3]
     refine tk 9 qLwRp8_29 (some 103) (v := .int .i64 g.tx) (Or.inl ⟨by rfl, ?q47319h⟩) hHeld ?q47319r
     case q47319h => (intro wq hSw; have lq := (hSw.1) 0 (.int .i64 g.tx) rfl; simp only [Nat.zero_add] at lq; clear hSw; go_simp; try with_reducible rfl)
     try simp only [z0, z1, z2, z3]
     refine tk 11 qLwRp8_30 (some 105) (yieldsIf_load_mid (by rfl) 25 (.tmp 17) rfl X15 (0) rfl (tbCells (.slice av y.held.length cv) (.slice bv y.wait.length dv)) _ (fun _ h => h.2.2.1) HUT.out rfl (info_tb)) hHeld ?_
     try simp only [z0, z1, z2, z3]
     refine tn 10 qLwRp8_31 (fun K hK => ?_)
     go_simp
     go_wp2_with (go_at_call 26; refine (tb_as H12.out (pcancel_any g.tx _ Hrdv.out ((HS522.out).reads 6 rfl) HYg.out)).mono ?_; rintro e w522 ⟨h9, v9, Rm, rfl, hrd2, hin2, hnew2, hb⟩)
     obtain ⟨am, cm, rfl, _, _⟩ := hrd2.1.shape
     obtain ⟨bm, dm, rfl, _, _⟩ := hrd2.2.shape
     have Hrdm := Lib.hid hrd2
     have HS523 : Hid (Hp w [.cd C, .ob B21 29 (grCells g), .ob X14 25 (tbCells (.slice ax x.held.length cx) (.slice bx x.wait.length dx)), .ob X15 25 (tbCells (.slice av y.held.length cv) (.slice bv y.wait.length dv)), .ob X16 25 (tbCells (.slice az z.held.length cz) (.slice bz z.wait.length dz)), .rd Rx, .rd Rv, .rd Rz, .rd Rl, .rd Rm] w522) := (HS522.out).addrd hb Rm hin2 (fun r hr => (hnew2 r hr).elim .inl (fun h => .inr ⟨.rd Rv, List.mem_of_getElem? (i := 6) rfl, h⟩))
     refine hK.out _ _ (⟨(fun j v hv => by rw [Nat.zero_add]; exact (HS523.out).at 1 rfl j hv), (fun j v hv => by rw [Nat.zero_add]; exact (HS523.out).at 2 rfl j hv), (fun j v hv => by rw [Nat.zero_add]; exact (HS523.out).at 3 rfl j hv), (fun j v hv => by rw [Nat.zero_add]; exact (HS523.out).at 4 rfl j hv)⟩) (fun hHeld => ?_)
     clear hK K hb hin2 hrd2 hnew2
     try simp only [z0, z1, z2, z3]
     refine tn 12 qLwRp8_32 (fun K hK => ?_)
     go_simp
     go_wp2_with (go_at_call 19; refine (rSame_tb _ Hrdm.out ((HS523.out).reads 9 rfl) Hrdv.out ((HS523.out).reads 6 rfl) HYg.out).mono ?_; rintro e w523 ⟨rfl, hb⟩)
     have HS524 := Lib.hid ((HS523.out).calls hb)
     refine hK.out _ _ (⟨(fun j v hv => by rw [Nat.zero_add]; exact (HS524.out).at 1 rfl j hv), (fun j v hv => by rw [Nat.zero_add]; exact (HS524.out).at 2 rfl j hv), (fun j v hv => by rw [Nat.zero_add]; exact (HS524.out).at 3 rfl j hv), (fun j v hv => by rw [Nat.zero_add]; exact (HS524.out).at 4 rfl j hv)⟩) (fun hHeld => ?_)
     clear hK K hb
     try simp only [z0, z1, z2, z3]
     refine tk 13 qLwRp8_33 (some 107) (v := ?q47321v) (Or.inl ⟨by rfl, ?q47321h⟩) hHeld ?q47321r
     case q47321h => (intro wq hSw; clear hSw; go_simp; try with_reducible rfl)
     try simp only [z0, z1, z2, z3]
     refine tk 14 qLwRp8_34 (some 108) (v := ?q47322v) (Or.inl ⟨by rfl, ?q47322h⟩) hHeld ?q47322r
     case q47322h => (intro wq hSw; clear hSw; go_simp; try with_reducible rfl)
     try simp only [z0, z1, z2, z3]
     refine tk 15 qLwRp8_35 (some 109) (yieldsIf_load_mid (by rfl) 25 (.tmp 16) rfl X14 (0) rfl (tbCells (.slice ax x.held.length cx) (.slice bx x.wait.length dx)) _ (fun _ h => h.2.1) HUT.out rfl (info_tb)) hHeld ?_
     try simp only [z0, z1, z2, z3]
     refine tk 16 qLwRp8_36 (some 110) (v := ?q47324v) (Or.inl ⟨by rfl, ?q47324h⟩) hHeld ?q47324r
     case q47324h => (intro wq hSw; clear hSw; go_simp; try with_reducible rfl)
     try simp only [z0, z1, z2, z3]
     refine tk 17 qLwRp8_37 (some 111) (v := .int .i64 g.tx) (Or.inl ⟨by rfl, ?q47325h⟩) hHeld ?q47325r
     case q47325h => (intro wq hSw; have lq := (hSw.1) 0 (.int .i64 g.tx) rfl; simp only [Nat.zero_add] at lq; clear hSw; go_simp; try with_reducible rfl)
     try simp only [z0, z1, z2, z3]
     refine tk 19 qLwRp8_38 (some 113) (yieldsIf_load_mid (by rfl) 25 (.tmp 16) rfl X14 (0) rfl (tbCells (.slice ax x.held.length cx) (.slice bx x.wait.length dx)) _ (fun _ h => h.2.1) HUT.out rfl (info_tb)) hHeld ?_
     try simp only [z0, z1, z2, z3]
     refine tn 18 qLwRp8_39 (fun K hK => ?_)
     go_simp
     go_wp2_with (go_at_call 26; refine (tb_as H13.out (pcancel_any g.tx _ Hrdx.out ((HS524.out).reads 5 rfl) HXg.out)).mono ?_; rintro e w524 ⟨h9, v9, Rn, rfl, hrd2, hin2, hnew2, hb⟩)
     obtain ⟨an, cn, rfl, _, _⟩ := hrd2.1.shape
     obtain ⟨bn, dn, rfl, _, _⟩ := hrd2.2.shape
     have Hrdn := Lib.hid hrd2
     have HS525 : Hid (Hp w [.cd C, .ob B21 29 (grCells g), .ob X14 25 (tbCells (.slice ax x.held.length cx) (.slice bx x.wait.length dx)), .ob X15 25 (tbCells (.slice av y.held.length cv) (.slice bv y.wait.length dv)), .ob X16 25 (tbCells (.slice az z.held.length cz) (.slice bz z.wait.length dz)), .rd Rx, .rd Rv, .rd Rz, .rd Rl, .rd Rm, .rd Rn] w524) := (HS524.out).addrd hb Rn hin2 (fun r hr => (hnew2 r hr).elim .inl (fun h => .inr ⟨.rd Rx, List.mem_of_getElem? (i := 5) rfl, h⟩))
     refine hK.out _ _ (⟨(fun j v hv => by rw [Nat.zero_add]; exact (HS525.out).at 1 rfl j hv), (fun j v hv => by rw [Nat.zero_add]; exact (HS525.out).at 2 rfl j hv), (fun j v hv => by rw [Nat.zero_add]; exact (HS525.out).at 3 rfl j hv), (fun j v hv => by rw [Nat.zero_add]; exact (HS525.out).at 4 rfl j hv)⟩) (fun hHeld => ?_)
     clear hK K hb hin2 hrd2 hnew2
     try simp only [z0, z1, z2, z3]
     refine tn 20 qLwRp8_40 (fun K hK => ?_)
     go_simp
     go_wp2_with (go_at_call 19; refine (rSame_tb _ Hrdn.out ((HS525.out).reads 10 rfl) Hrdx.out ((HS525.out).reads 5 rfl) HXg.out).mono ?_; rintro e w525 ⟨rfl, hb⟩)
     have HS526 := Lib.hid ((HS525.out).calls hb)
     refine hK.out _ _ (⟨(fun j v hv => by rw [Nat.zero_add]; exact (HS526.out).at 1 rfl j hv), (fun j v hv => by rw [Nat.zero_add]; exact (HS526.out).at 2 rfl j hv), (fun j v hv => by rw [Nat.zero_add]; exact (HS526.out).at 3 rfl j hv), (fun j v hv => by rw [Nat.zero_add]; exact (HS526.out).at 4 rfl j hv)⟩) (fun hHeld => ?_)
     clear hK K hb
     try simp only [z0, z1, z2, z3]
     refine tk 21 qLwRp8_41 (some 115) (v := ?q47327v) (Or.inl ⟨by rfl, ?q47327h⟩) hHeld ?q47327r
     case q47327h => (intro wq hSw; clear hSw; go_simp; try with_reducible rfl)
     try simp only [z0, z1, z2, z3]
     refine tk 22 qLwRp8_42 (some 116) (v := ?q47328v) (Or.inl ⟨by rfl, ?q47328h⟩) hHeld ?q47328r
     case q47328h => (intro wq hSw; clear hSw; go_simp; try with_reducible rfl)
     try simp only [z0, z1, z2, z3]
     refine tk 23 qLwRp8_43 (some 117) (yieldsIf_load_mid (by rfl) 25 (.tmp 16) rfl X14 (0) rfl (tbCells (.slice ax x.held.length cx) (.slice bx x.wait.length dx)) _ (fun _ h => h.2.1) HUT.out rfl (info_tb)) hHeld ?_
     try simp only [z0, z1, z2, z3]
     refine tk 24 qLwRp8_44 (some 118) (v := ?q47330v) (Or.inl ⟨by rfl, ?q47330h⟩) hHeld ?q47330r
     case q47330h => (intro wq hSw; clear hSw; go_simp; try with_reducible rfl)
     try simp only [z0, z1, z2, z3]
     refine tk 25 qLwRp8_45 (some 119) (v := .int .i64 g.tx) (Or.inl ⟨by rfl, ?q47331h⟩) hHeld ?q47331r
     case q47331h => (intro wq hSw; have lq := (hSw.1) 0 (.int .i64 g.tx) rfl; simp only [Nat.zero_add] at lq; clear hSw; go_simp; try with_reducible rfl)
     try simp only [z0, z1, z2, z3]
     refine tk 26 qLwRp8_46 (some 120) (v := ?q47332v) (Or.inl ⟨by rfl, ?q47332h⟩) hHeld ?q47332r
     case q47332h => (intro wq hSw; clear hSw; go_simp; try with_reducible rfl)
     try simp only [z0, z1, z2, z3]
     refine tk 27 qLwRp8_47 (some 121) (yieldsIf_load_mid (by rfl) 27 (.tmp 120) rfl B21 (1) rfl (lkCells g.lock) _ (fun _ h => range_part (h.1) (mid_lk g)) HUK.out rfl (info_lk)) hHeld ?_
     try simp only [z0, z1, z2, z3]
     refine tn 28 qLwRp8_48 (fun K hK => ?_)
     go_simp
     go_wp2_with (go_at_call 20; refine (HMo.out _ ((HS526.out).reads 5 rfl)).mono ?_; rintro e w526 ⟨rfl, hb⟩)
     have HS527 := Lib.hid ((HS526.out).calls hb)
     refine hK.out _ _ (⟨(fun j v hv => by rw [Nat.zero_add]; exact (HS527.out).at 1 rfl j hv), (fun j v hv => by rw [Nat.zero_add]; exact (HS527.out).at 2 rfl j hv), (fun j v hv => by rw [Nat.zero_add]; exact (HS527.out).at 3 rfl j hv), (fun j v hv => by rw [Nat.zero_add]; exact (HS527.out).at 4 rfl j hv)⟩) (fun hHeld => ?_)
     clear hK K hb
     try simp only [z0, z1, z2, z3]
     refine tk 29 qLwRp8_49 (some 123) (v := .bool true) (Or.inl ⟨by rfl, ?q47334h⟩) hHeld ?q47334r
     case q47334h => (intro wq hSw; clear hSw; go_simp; try with_reducible rfl)
     try simp only [z0, z1, z2, z3]
     refine tk 30 qLwRp8_50 (some 124) (v := ?q47335v) (Or.inl ⟨by rfl, ?q47335h⟩) hHeld ?q47335r
     case q47335h => (intro wq hSw; clear hSw; go_simp; try with_reducible rfl)
     try simp only [z0, z1, z2, z3]
     refine tk 31 qLwRp8_51 (some 125) (v := ?q47336v) (Or.inl ⟨by rfl, ?q47336h⟩) hHeld ?q47336r
     case q47336h => (intro wq hSw; clear hSw; go_simp; try with_reducible rfl)
     try simp only [z0, z1, z2, z3]
     refine tk 32 qLwRp8_52 (some 126) (v := .bool false) (Or.inl ⟨by rfl, ?q47337h⟩) hHeld ?q47337r
     case q47337h => (intro wq hSw; clear hSw; go_simp; try with_reducible rfl)
     try simp only [z0, z1, z2, z3]
     refine tk 33 qLwRp8_53 (some 127) (v := ?q47338v) (Or.inl ⟨by rfl, ?q47338h⟩) hHeld ?q47338r
     case q47338h => (intro wq hSw; clear hSw; go_simp; try with_reducible rfl)
     try simp only [z0, z1, z2, z3]
     refine tk 34 qLwRp8_54 (some 128) (v := ?q47339v) (Or.inl ⟨by rfl, ?q47339h⟩) hHeld ?q47339r
     case q47339h => (intro wq hSw; clear hSw; go_simp; try with_reducible rfl)
     try simp only [z0, z1, z2, z3]
     refine tk 35 qLwRp8_55 (some 129) (v := undef) (Or.inr ⟨by rfl, rfl⟩) hHeld ?_
     try simp only [z0, z1, z2, z3]
     refine tn 36 qLwRp8_56 (fun K hK => ?_)
     rw [if_neg (by exact Bool.false_ne_true)]
     have HS528 := HS527
     refine hK.out _ _ (⟨(fun j v hv => by rw [Nat.zero_add]; exact (HS528.out).at 1 rfl j hv), (fun j v hv => by rw [Nat.zero_add]; exact (HS528.out).at 2 rfl j hv), (fun j v hv => by rw [Nat.zero_add]; exact (HS528.out).at 3 rfl j hv), (fun j v hv => by rw [Nat.zero_add]; exact (HS528.out).at 4 rfl j hv)⟩) (fun hHeld => ?_)
     clear hK K
     try simp only [z0, z1, z2, z3]
     refine tk 37 qLwRp8_57 (some 131) (v := ?q47341v) (Or.inl ⟨by rfl, ?q47341h⟩) hHeld ?q47341r
     case q47341h => (intro wq hSw; clear hSw; go_simp; try with_reducible rfl)
     try simp only [z0, z1, z2, z3]
     refine tk 38 qLwRp8_58 (some 132) (v := ?q47342v) (Or.inl ⟨by rfl, ?q47342h⟩) hHeld ?q47342r
     case q47342h => (intro wq hSw; clear hSw; go_simp; try with_reducible rfl)
     try simp only [z0, z1, z2, z3]
     refine tk 39 qLwRp8_59 (some 2) (v := ?q47343v) (Or.inl ⟨by rfl, ?q47343h⟩) hHeld ?q47343r
     case q47343h => (intro wq hSw; clear hSw; go_simp; try with_reducible rfl)
     try simp only [z0, z1, z2, z3]
     refine wpAnyH_done (by kernel_rfl) ?_ _
     clear hHeld
     go_wp2_with fail
     go_ret
     exact ⟨rfl, HS528.out.old⟩
    case true =>
     refine wp_region_held_drew (S := fun w' => w'.rangeAt B21 0 (grCells g) ∧ w'.rangeAt X14 0 (tbCells (.slice ax x.held.length cx) (.slice bx x.wait.length dx)) ∧ w'.rangeAt X15 0 (tbCells (.slice av y.held.length cv) (.slice bv y.wait.length dv)) ∧ w'.rangeAt X16 0 (tbCells (.slice az z.held.length cz) (.slice bz z.wait.length dz))) (by kernel_rfl) (⟨(fun j v hv => by rw [Nat.zero_add]; exact ((HS520.out).drew).at 1 rfl j hv), (fun j v hv => by rw [Nat.zero_add]; exact ((HS520.out).drew).at 2 rfl j hv), (fun j v hv => by rw [Nat.zero_add]; exact ((HS520.out).drew).at 3 rfl j hv), (fun j v hv => by rw [Nat.zero_add]; exact ((HS520.out).drew).at 4 rfl j hv)⟩) (fun hHeld => ?_)
     refine tk 0 qLwRp8_20 (some 94) (yieldsIf_load_mid (by rfl) 25 (.tmp 16) rfl X14 (0) rfl (tbCells (.slice ax x.held.length cx) (.slice bx x.wait.length dx)) _ (fun _ h => h.2.1) HUT.out rfl (info_tb)) hHeld ?_
     try simp only [z0, z1, z2, z3]
     refine tk 1 qLwRp8_21 (some 95) (v := ?q47545v) (Or.inl ⟨by rfl, ?q47545h⟩) hHeld ?q47545r
     case q47545h => (intro wq hSw; clear hSw; go_simp; try with_reducible rfl)
     try simp only [z0, z1, z2, z3]
     refine tk 2 qLwRp8_22 (some 96) (v := .int .i64 g.tx) (Or.inl ⟨by rfl, ?q47546h⟩) hHeld ?q47546r
     case q47546h => (intro wq hSw; have lq := (hSw.1) 0 (.int .i64 g.tx) rfl; simp only [Nat.zero_add] at lq; clear hSw; go_simp; try with_reducible rfl)
     try simp only [z0, z1, z2, z3]
     refine tk 4 qLwRp8_23 (some 98) (yieldsIf_load_mid (by rfl) 25 (.tmp 16) rfl X14 (0) rfl (tbCells (.slice ax x.held.length cx) (.slice bx x.wait.length dx)) _ (fun _ h => h.2.1) HUT.out rfl (info_tb)) hHeld ?_
     try simp only [z0, z1, z2, z3]
     refine tn 3 qLwRp8_24 (fun K hK => ?_)
     go_simp
     go_wp2_with (go_at_call 28; refine (tb_as H11.out (prelease_any g.tx _ Hrdx.out (((HS520.out).drew).reads 5 rfl) HXg.out)).mono ?_; rintro e w532 ⟨h9, v9, Rl, rfl, hrd2, hin2, hnew2, hb⟩)
     obtain ⟨al, cl, rfl, _, _⟩ := hrd2.1.shape
     obtain ⟨bl, dl, rfl, _, _⟩ := hrd2.2.shape
     have Hrdl := Lib.hid hrd2
     have HS534 : Hid (Hp w [.cd C, .ob B21 29 (grCells g), .ob X14 25 (tbCells (.slice ax x.held.length cx) (.slice bx x.wait.length dx)), .ob X15 25 (tbCells (.slice av y.held.length cv) (.slice bv y.wait.length dv)), .ob X16 25 (tbCells (.slice az z.held.length cz) (.slice bz z.wait.length dz)), .rd Rx, .rd Rv, .rd Rz, .rd Rl] w532) := ((HS520.out).drew).addrd hb Rl hin2 (fun r hr => (hnew2 r hr).elim .inl (fun h => .inr ⟨.rd Rx, List.mem_of_getElem? (i := 5) rfl, h⟩))
     refine hK.out _ _ (⟨(fun j v hv => by rw [Nat.zero_add]; exact (HS534.out).at 1 rfl j hv), (fun j v hv => by rw [Nat.zero_add]; exact (HS534.out).at 2 rfl j hv), (fun j v hv => by rw [Nat.zero_add]; exact (HS534.out).at 3 rfl j hv), (fun j v hv => by rw [Nat.zero_add]; exact (HS534.out).at 4 rfl j hv)⟩) (fun hHeld => ?_)
     clear hK K hb hin2 hrd2 hnew2
     try simp only [z0, z1, z2, z3]
     refine tn 5 qLwRp8_25 (fun K hK => ?_)
     go_simp
     go_wp2_with (go_at_call 19; refine (rSame_tb _ Hrdl.out ((HS534.out).reads 8 rfl) Hrdx.out ((HS534.out).reads 5 rfl) HXg.out).mono ?_; rintro e w533 ⟨rfl, hb⟩)
     have HS535 := Lib.hid ((HS534.out).calls hb)
     refine hK.out _ _ (⟨(fun j v hv => by rw [Nat.zero_add]; exact (HS535.out).at 1 rfl j hv), (fun j v hv => by rw [Nat.zero_add]; exact (HS535.out).at 2 rfl j hv), (fun j v hv => by rw [Nat.zero_add]; exact (HS535.out).at 3 rfl j hv), (fun j v hv => by rw [Nat.zero_add]; exact (HS535.out).at 4 rfl j hv)⟩) (fun hHeld => ?_)
     clear hK K hb
     try simp only [z0, z1, z2, z3]
     refine tk 6 qLwRp8_26 (some 100) (v := ?q47548v) (Or.inl ⟨by rfl, ?q47548h⟩) hHeld ?q47548r
     case q47548h => (intro wq hSw; clear hSw; go_simp; try with_reducible rfl)
     try simp only [z0, z1, z2, z3]
     refine tk 7 qLwRp8_27 (some 101) (yieldsIf_load_mid (by rfl) 25 (.tmp 17) rfl X15 (0) rfl (tbCells (.slice av y.held.length cv) (.slice bv y.wait.length dv)) _ (fun _ h => h.2.2.1) HUT.out rfl (info_tb)) hHeld ?_
     try simp only [z0, z1, z2, z3]
     refine tk 8 qLwRp8_28 (some 102) (v := ?q47550v) (Or.inl ⟨by rfl, ?q47550h⟩) hHeld ?q47550r
     case q47550h => (intro wq hSw; clear hSw; go_simp; try with_reducible rfl)
     try simp only [z0, z1, z2, z3]
     refine tk 9 qLwRp8_29 (some 103) (v := .int .i64 g.tx) (Or.inl ⟨by rfl, ?q47551h⟩) hHeld ?q47551r
     case q47551h => (intro wq hSw; have lq := (hSw.1) 0 (.int .i64 g.tx) rfl; simp only [Nat.zero_add] at lq; clear hSw; go_simp; try with_reducible rfl)
     try simp only [z0, z1, z2, z3]
     refine tk 11 qLwRp8_30 (some 105) (yieldsIf_load_mid (by rfl) 25 (.tmp 17) rfl X15 (0) rfl (tbCells (.slice av y.held.length cv) (.slice bv y.wait.length dv)) _ (fun _ h => h.2.2.1) HUT.out rfl (info_tb)) hHeld ?_
     try simp only [z0, z1, z2, z3]
     refine tn 10 qLwRp8_31 (fun K hK => ?_)
     go_simp
     go_wp2_with (go_at_call 26; refine (tb_as H12.out (pcancel_any g.tx _ Hrdv.out ((HS535.out).reads 6 rfl) HYg.out)).mono ?_; rintro e w534 ⟨h9, v9, Rm, rfl, hrd2, hin2, hnew2, hb⟩)
     obtain ⟨am, cm, rfl, _, _⟩ := hrd2.1.shape
     obtain ⟨bm, dm, rfl, _, _⟩ := hrd2.2.shape
     have Hrdm := Lib.hid hrd2
     have HS536 : Hid (Hp w [.cd C, .ob B21 29 (grCells g), .ob X14 25 (tbCells (.slice ax x.held.length cx) (.slice bx x.wait.length dx)), .ob X15 25 (tbCells (.slice av y.held.length cv) (.slice bv y.wait.length dv)), .ob X16 25 (tbCells (.slice az z.held.length cz) (.slice bz z.wait.length dz)), .rd Rx, .rd Rv, .rd Rz, .rd Rl, .rd Rm] w534) := (HS535.out).addrd hb Rm hin2 (fun r hr => (hnew2 r hr).elim .inl (fun h => .inr ⟨.rd Rv, List.mem_of_getElem? (i := 6) rfl, h⟩))
     refine hK.out _ _ (⟨(fun j v hv => by rw [Nat.zero_add]; exact (HS536.out).at 1 rfl j hv), (fun j v hv => by rw [Nat.zero_add]; exact (HS536.out).at 2 rfl j hv), (fun j v hv => by rw [Nat.zero_add]; exact (HS536.out).at 3 rfl j hv), (fun j v hv => by rw [Nat.zero_add]; exact (HS536.out).at 4 rfl j hv)⟩) (fun hHeld => ?_)
     clear hK K hb hin2 hrd2 hnew2
     try simp only [z0, z1, z2, z3]
     refine tn 12 qLwRp8_32 (fun K hK => ?_)
     go_simp
     go_wp2_with (go_at_call 19; refine (rSame_tb _ Hrdm.out ((HS536.out).reads 9 rfl) Hrdv.out ((HS536.out).reads 6 rfl) HYg.out).mono ?_; rintro e w535 ⟨rfl, hb⟩)
     have HS537 := Lib.hid ((HS536.out).calls hb)
     refine hK.out _ _ (⟨(fun j v hv => by rw [Nat.zero_add]; exact (HS537.out).at 1 rfl j hv), (fun j v hv => by rw [Nat.zero_add]; exact (HS537.out).at 2 rfl j hv), (fun j v hv => by rw [Nat.zero_add]; exact (HS537.out).at 3 rfl j hv), (fun j v hv => by rw [Nat.zero_add]; exact (HS537.out).at 4 rfl j hv)⟩) (fun hHeld => ?_)
     clear hK K hb
     try simp only [z0, z1, z2, z3]
     refine tk 13 qLwRp8_33 (some 107) (v := ?q47553v) (Or.inl ⟨by rfl, ?q47553h⟩) hHeld ?q47553r
     case q47553h => (intro wq hSw; clear hSw; go_simp; try with_reducible rfl)
     try simp only [z0, z1, z2, z3]
     refine tk 14 qLwRp8_34 (some 108) (v := ?q47554v) (Or.inl ⟨by rfl, ?q47554h⟩) hHeld ?q47554r
     case q47554h => (intro wq hSw; clear hSw; go_simp; try with_reducible rfl)
     try simp only [z0, z1, z2, z3]
     refine tk 15 qLwRp8_35 (some 109) (yieldsIf_load_mid (by rfl) 25 (.tmp 16) rfl X14 (0) rfl (tbCells (.slice ax x.held.length cx) (.slice bx x.wait.length dx)) _ (fun _ h => h.2.1) HUT.out rfl (info_tb)) hHeld ?_
     try simp only [z0, z1, z2, z3]
     refine tk 16 qLwRp8_36 (some 110) (v := ?q47556v) (Or.inl ⟨by rfl, ?q47556h⟩) hHeld ?q47556r
     case q47556h => (intro wq hSw; clear hSw; go_simp; try with_reducible rfl)
     try simp only [z0, z1, z2, z3]
     refine tk 17 qLwRp8_37 (some 111) (v := .int .i64 g.tx) (Or.inl ⟨by rfl, ?q47557h⟩) hHeld ?q47557r
     case q47557h => (intro wq hSw; have lq := (hSw.1) 0 (.int .i64 g.tx) rfl; simp only [Nat.zero_add] at lq; clear hSw; go_simp; try with_reducible rfl)
     try simp only [z0, z1, z2, z3]
     refine tk 19 qLwRp8_38 (some 113) (yieldsIf_load_mid (by rfl) 25 (.tmp 16) rfl X14 (0) rfl (tbCells (.slice ax x.held.length cx) (.slice bx x.wait.length dx)) _ (fun _ h => h.2.1) HUT.out rfl (info_tb)) hHeld ?_
     try simp only [z0, z1, z2, z3]
     refine tn 18 qLwRp8_39 (fun K hK => ?_)
     go_simp
     go_wp2_with (go_at_call 26; refine (tb_as H13.out (pcancel_any g.tx _ Hrdx.out ((HS537.out).reads 5 rfl) HXg.out)).mono ?_; rintro e w536 ⟨h9, v9, Rn, rfl, hrd2, hin2, hnew2, hb⟩)
     obtain ⟨an, cn, rfl, _, _⟩ := hrd2.1.shape
     obtain ⟨bn, dn, rfl, _, _⟩ := hrd2.2.shape
     have Hrdn := Lib.hid hrd2
     have HS538 : Hid (Hp w [.cd C, .ob B21 29 (grCells g), .ob X14 25 (tbCells (.slice ax x.held.length cx) (.slice bx x.wait.length dx)), .ob X15 25 (tbCells (.slice av y.held.length cv) (.slice bv y.wait.length dv)), .ob X16 25 (tbCells (.slice az z.held.length cz) (.slice bz z.wait.length dz)), .rd Rx, .rd Rv, .rd Rz, .rd Rl, .rd Rm, .rd Rn] w536) := (HS537.out).addrd hb Rn hin2 (fun r hr => (hnew2 r hr).elim .inl (fun h => .inr ⟨.rd Rx, List.mem_of_getElem? (i := 5) rfl, h⟩))
     refine hK.out _ _ (⟨(fun j v hv => by rw [Nat.zero_add]; exact (HS538.out).at 1 rfl j hv), (fun j v hv => by rw [Nat.zero_add]; exact (HS538.out).at 2 rfl j hv), (fun j v hv => by rw [Nat.zero_add]; exact (HS538.out).at 3 rfl j hv), (fun j v hv => by rw [Nat.zero_add]; exact (HS538.out).at 4 rfl j hv)⟩) (fun hHeld => ?_)
     clear hK K hb hin2 hrd2 hnew2
     try simp only [z0, z1, z2, z3]
     refine tn 20 qLwRp8_40 (fun K hK => ?_)
     go_simp
     go_wp2_with (go_at_call 19; refine (rSame_tb _ Hrdn.out ((HS538.out).reads 10 rfl) Hrdx.out ((HS538.out).reads 5 rfl) HXg.out).mono ?_; rintro e w537 ⟨rfl, hb⟩)
     have HS539 := Lib.hid ((HS538.out).calls hb)
     refine hK.out _ _ (⟨(fun j v hv => by rw [Nat.zero_add]; exact (HS539.out).at 1 rfl j hv), (fun j v hv => by rw [Nat.zero_add]; exact (HS539.out).at 2 rfl j hv), (fun j v hv => by rw [Nat.zero_add]; exact (HS539.out).at 3 rfl j hv), (fun j v hv => by rw [Nat.zero_add]; exact (HS539.out).at 4 rfl j hv)⟩) (fun hHeld => ?_)
     clear hK K hb
     try simp only [z0, z1, z2, z3]
     refine tk 21 qLwRp8_41 (some 115) (v := ?q47559v) (Or.inl ⟨by rfl, ?q47559h⟩) hHeld ?q47559r
     case q47559h => (intro wq hSw; clear hSw; go_simp; try with_reducible rfl)
     try simp only [z0, z1, z2, z3]
     refine tk 22 qLwRp8_42 (some 116) (v := ?q47560v) (Or.inl ⟨by rfl, ?q47560h⟩) hHeld ?q47560r
     case q47560h => (intro wq hSw; clear hSw; go_simp; try with_reducible rfl)
     try simp only [z0, z1, z2, z3]
     refine tk 23 qLwRp8_43 (some 117) (yieldsIf_load_mid (by rfl) 25 (.tmp 16) rfl X14 (0) rfl (tbCells (.slice ax x.held.length cx) (.slice bx x.wait.length dx)) _ (fun _ h => h.2.1) HUT.out rfl (info_tb)) hHeld ?_
     try simp only [z0, z1, z2, z3]
     refine tk 24 qLwRp8_44 (some 118) (v := ?q47562v) (Or.inl ⟨by rfl, ?q47562h⟩) hHeld ?q47562r
     case q47562h => (intro wq hSw; clear hSw; go_simp; try with_reducible rfl)
     try simp only [z0, z1, z2, z3]
     refine tk 25 qLwRp8_45 (some 119) (v := .int .i64 g.tx) (Or.inl ⟨by rfl, ?q47563h⟩) hHeld ?q47563r
     case q47563h => (intro wq hSw; have lq := (hSw.1) 0 (.int .i64 g.tx) rfl; simp only [Nat.zero_add] at lq; clear hSw; go_simp; try with_reducible rfl)
     try simp only [z0, z1, z2, z3]
     refine tk 26 qLwRp8_46 (some 120) (v := ?q47564v) (Or.inl ⟨by rfl, ?q47564h⟩) hHeld ?q47564r
     case q47564h => (intro wq hSw; clear hSw; go_simp; try with_reducible rfl)
     try simp only [z0, z1, z2, z3]
     refine tk 27 qLwRp8_47 (some 121) (yieldsIf_load_mid (by rfl) 27 (.tmp 120) rfl B21 (1) rfl (lkCells g.lock) _ (fun _ h => range_part (h.1) (mid_lk g)) HUK.out rfl (info_lk)) hHeld ?_
     try simp only [z0, z1, z2, z3]
     refine tn 28 qLwRp8_48 (fun K hK => ?_)
     go_simp
     go_wp2_with (go_at_call 20; refine (HMo.out _ ((HS539.out).reads 5 rfl)).mono ?_; rintro e w538 ⟨rfl, hb⟩)
     have HS540 := Lib.hid ((HS539.out).calls hb)
     refine hK.out _ _ (⟨(fun j v hv => by rw [Nat.zero_add]; exact (HS540.out).at 1 rfl j hv), (fun j v hv => by rw [Nat.zero_add]; exact (HS540.out).at 2 rfl j hv), (fun j v hv => by rw [Nat.zero_add]; exact (HS540.out).at 3 rfl j hv), (fun j v hv => by rw [Nat.zero_add]; exact (HS540.out).at 4 rfl j hv)⟩) (fun hHeld => ?_)
     clear hK K hb
     try simp only [z0, z1, z2, z3]
     refine tk 29 qLwRp8_49 (some 123) (v := .bool true) (Or.inl ⟨by rfl, ?q47566h⟩) hHeld ?q47566r
     case q47566h => (intro wq hSw; clear hSw; go_simp; try with_reducible rfl)
     try simp only [z0, z1, z2, z3]
     refine tk 30 qLwRp8_50 (some 124) (v := ?q47567v) (Or.inl ⟨by rfl, ?q47567h⟩) hHeld ?q47567r
     case q47567h => (intro wq hSw; clear hSw; go_simp; try with_reducible rfl)
     try simp only [z0, z1, z2, z3]
     refine tk 31 qLwRp8_51 (some 125) (v := ?q47568v) (Or.inl ⟨by rfl, ?q47568h⟩) hHeld ?q47568r
     case q47568h => (intro wq hSw; clear hSw; go_simp; try with_reducible rfl)
     try simp only [z0, z1, z2, z3]
     refine tk 32 qLwRp8_52 (some 126) (v := .bool true) (Or.inl ⟨by rfl, ?q47569h⟩) hHeld ?q47569r
     case q47569h => (intro wq hSw; clear hSw; go_simp; try with_reducible rfl)
     try simp only [z0, z1, z2, z3]
     refine tk 33 qLwRp8_53 (some 127) (v := ?q47570v) (Or.inl ⟨by rfl, ?q47570h⟩) hHeld ?q47570r
     case q47570h => (intro wq hSw; clear hSw; go_simp; try with_reducible rfl)
     try simp only [z0, z1, z2, z3]
     refine tk 34 qLwRp8_54 (some 128) (v := ?q47571v) (Or.inl ⟨by rfl, ?q47571h⟩) hHeld ?q47571r
     case q47571h => (intro wq hSw; clear hSw; go_simp; try with_reducible rfl)
     try simp only [z0, z1, z2, z3]
     refine tk 35 qLwRp8_55 (some 129) (yieldsIf_load_mid (by rfl) 25 (.tmp 18) rfl X16 (0) rfl (tbCells (.slice az z.held.length cz) (.slice bz z.wait.length dz)) _ (fun _ h => h.2.2.2) HUT.out rfl (info_tb)) hHeld ?_
     try simp only [z0, z1, z2, z3]
     refine tn 36 qLwRp8_56 (fun K hK => ?_)
     go_simp
     go_wp2_with (go_at_call 12; refine (HVa.out _ ((HS540.out).reads 7 rfl)).mono ?_; rintro e w539 ⟨rfl, hb⟩)
     have HS541 := Lib.hid ((HS540.out).calls hb)
     refine hK.out _ _ (⟨(fun j v hv => by rw [Nat.zero_add]; exact (HS541.out).at 1 rfl j hv), (fun j v hv => by rw [Nat.zero_add]; exact (HS541.out).at 2 rfl j hv), (fun j v hv => by rw [Nat.zero_add]; exact (HS541.out).at 3 rfl j hv), (fun j v hv => by rw [Nat.zero_add]; exact (HS541.out).at 4 rfl j hv)⟩) (fun hHeld => ?_)
     clear hK K hb
     try simp only [z0, z1, z2, z3]
     refine tk 37 qLwRp8_57 (some 131) (v := ?q47573v) (Or.inl ⟨by rfl, ?q47573h⟩) hHeld ?q47573r
     case q47573h => (intro wq hSw; clear hSw; go_simp; try with_reducible rfl)
     try simp only [z0, z1, z2, z3]
     refine tk 38 qLwRp8_58 (some 132) (v := ?q47574v) (Or.inl ⟨by rfl, ?q47574h⟩) hHeld ?q47574r
     case q47574h => (intro wq hSw; clear hSw; go_simp; try with_reducible rfl)
     try simp only [z0, z1, z2, z3]
     refine tk 39 qLwRp8_59 (some 2) (v := ?q47575v) (Or.inl ⟨by rfl, ?q47575h⟩) hHeld ?q47575r
     case q47575h => (intro wq hSw; clear hSw; go_simp; try with_reducible rfl)
     try simp only [z0, z1, z2, z3]
     refine wpAnyH_done (by kernel_rfl) ?_ _
     clear hHeld
     go_wp2_with fail
     go_ret
     exact ⟨rfl, HS541.out.old⟩
end Go.Proofs.Ytcnaalbpbalgdaa
