/- texts of a claim, one after the other: the law LocksExact: for every input the call returns true, a slice that came in, opened: its elements are values of a kind, and its cells read, a table of locks and a grant that came in by value, opened -/
import Derived.Test.YtcnaalbpbalgdaaLd1
import Derived.Test.YtcnaalbpbalgdaaLd8
import Derived.Deep.CutBlock
import Derived.Deep.Slices
import Derived.ChangeArms
import Derived.Test.YtcnaalbpbalgdaaLd2
/- the law LocksExact: for every input the call returns true -/
namespace Go.Proofs.Ytcnaalbpbalgdaa
open Go.RowKit
open Go.Act renaming put → z0
open List renaming setIfInBounds_toArray → z1, set_cons_zero → z2, set_cons_succ → z3
set_option maxRecDepth 20000
set_option linter.unusedSimpArgs false
set_option linter.unusedVariables false

abbrev qLwEx8_0 : Oper := { dst := some 55, op := Op.load 25 (Operand.tmp 5), type := 25, pos := "law.go:42", after := #[], guard := none }
abbrev qLwEx8_1 : Oper := { dst := some 56, op := Op.load 25 (Operand.tmp 10), type := 25, pos := "law.go:42", after := #[], guard := none }
abbrev qLwEx8_2 : Oper := { dst := some 57, op := Op.move (Operand.tmp 9), type := 31, pos := "law.go:42", after := #[], guard := none }
abbrev qLwEx8_3 : Oper := { dst := some 58, op := Op.load 25 (Operand.tmp 10), type := 25, pos := "law.go:42", after := #[], guard := none }
abbrev qLwEx8_4 : Oper := { dst := some 62, op := Op.move (Operand.const (Value.int IntKind.i64 0)), type := 3, pos := "law.go:42", after := #[], guard := none }
abbrev qLwEx8_5 : Oper := { dst := some 59, op := Op.call { callee := Callee.value (Operand.func 11), args := #[Operand.tmp 57, Operand.tmp 58], argTypes := #[31, 25] }, type := 25, pos := "law.go:42", after := #[{ on := 2, ground := Ground.data }, { on := 3, ground := Ground.data }], guard := none }
abbrev qLwEx8_6 : Oper := { dst := some 60, op := Op.buildSlice 35 3 #[(0, Operand.tmp 55), (1, Operand.tmp 56), (2, Operand.tmp 59)], type := 35, pos := "law.go:42", after := #[{ on := 0, ground := Ground.data }, { on := 1, ground := Ground.data }, { on := 4, ground := Ground.data }], guard := none }
abbrev qLwEx8_7 : Oper := { dst := some 61, op := Op.call { callee := Callee.builtin Builtin.len, args := #[Operand.tmp 60], argTypes := #[35] }, type := 3, pos := "law.go:42", after := #[{ on := 5, ground := Ground.data }], guard := none }
abbrev qLwEx8_8 : Oper := { dst := some 66, op := Op.load 25 (Operand.tmp 12), type := 25, pos := "law.go:43", after := #[], guard := none }
abbrev qLwEx8_9 : Oper := { dst := some 68, op := Op.load 25 (Operand.tmp 12), type := 25, pos := "law.go:43", after := #[], guard := none }
abbrev qLwEx8_10 : Oper := { dst := some 67, op := Op.call { callee := Callee.value (Operand.func 12), args := #[Operand.tmp 66], argTypes := #[25] }, type := 4, pos := "law.go:43", after := #[{ on := 0, ground := Ground.data }], guard := none }
abbrev qLwEx8_11 : Oper := { dst := some 69, op := Op.call { callee := Callee.value (Operand.func 13), args := #[Operand.tmp 68], argTypes := #[25] }, type := 4, pos := "law.go:43", after := #[{ on := 2, ground := Ground.data }, { on := 1, ground := Ground.chain }], guard := none }
abbrev qLwEx8_12 : Oper := { dst := some 70, op := Op.binOp BinOp.neq 4 (Operand.tmp 67) (Operand.tmp 69) 4, type := 4, pos := "law.go:43", after := #[{ on := 1, ground := Ground.data }, { on := 3, ground := Ground.data }], guard := none }
abbrev qLwEx8_13 : Oper := { dst := some 71, op := Op.load 29 (Operand.tmp 6), type := 29, pos := "law.go:46", after := #[], guard := none }
abbrev qLwEx8_14 : Oper := { dst := some 72, op := Op.move (Operand.tmp 9), type := 31, pos := "law.go:46", after := #[], guard := none }
abbrev qLwEx8_15 : Oper := { dst := some 74, op := Op.move (Operand.tmp 9), type := 31, pos := "law.go:46", after := #[], guard := none }
abbrev qLwEx8_16 : Oper := { dst := some 76, op := Op.move (Operand.tmp 9), type := 31, pos := "law.go:46", after := #[], guard := none }
abbrev qLwEx8_17 : Oper := { dst := some 78, op := Op.move (Operand.tmp 9), type := 31, pos := "law.go:46", after := #[], guard := none }
abbrev qLwEx8_18 : Oper := { dst := some 81, op := Op.move (Operand.tmp 9), type := 31, pos := "law.go:46", after := #[], guard := none }
abbrev qLwEx8_19 : Oper := { dst := some 86, op := Op.move (Operand.const (Value.int IntKind.i64 0)), type := 3, pos := "law.go:46", after := #[], guard := none }
abbrev qLwEx8_20 : Oper := { dst := some 73, op := Op.call { callee := Callee.value (Operand.func 14), args := #[Operand.tmp 72], argTypes := #[31] }, type := 29, pos := "law.go:46", after := #[{ on := 1, ground := Ground.data }], guard := none }
abbrev qLwEx8_21 : Oper := { dst := some 75, op := Op.call { callee := Callee.value (Operand.func 15), args := #[Operand.tmp 74], argTypes := #[31] }, type := 3, pos := "law.go:46", after := #[{ on := 3, ground := Ground.data }, { on := 2, ground := Ground.chain }], guard := none }
abbrev qLwEx8_22 : Oper := { dst := some 77, op := Op.call { callee := Callee.value (Operand.func 15), args := #[Operand.tmp 76], argTypes := #[31] }, type := 3, pos := "law.go:46", after := #[{ on := 5, ground := Ground.data }, { on := 4, ground := Ground.chain }], guard := none }
abbrev qLwEx8_23 : Oper := { dst := some 79, op := Op.call { callee := Callee.value (Operand.func 16), args := #[Operand.tmp 78, Operand.const (Value.int IntKind.i64 3)], argTypes := #[31, 3] }, type := 3, pos := "law.go:46", after := #[{ on := 7, ground := Ground.data }, { on := 6, ground := Ground.chain }], guard := none }
abbrev qLwEx8_24 : Oper := { dst := some 80, op := Op.build 27 #[(0, Operand.tmp 77), (1, Operand.tmp 79)], type := 27, pos := "law.go:46", after := #[{ on := 6, ground := Ground.data }, { on := 8, ground := Ground.data }], guard := none }
abbrev qLwEx8_25 : Oper := { dst := some 82, op := Op.call { callee := Callee.value (Operand.func 16), args := #[Operand.tmp 81, Operand.const (Value.int IntKind.i64 4)], argTypes := #[31, 3] }, type := 3, pos := "law.go:46", after := #[{ on := 10, ground := Ground.data }, { on := 8, ground := Ground.chain }], guard := none }
abbrev qLwEx8_26 : Oper := { dst := some 83, op := Op.build 29 #[(0, Operand.tmp 75), (1, Operand.tmp 80), (2, Operand.tmp 82)], type := 29, pos := "law.go:46", after := #[{ on := 4, ground := Ground.data }, { on := 9, ground := Ground.data }, { on := 11, ground := Ground.data }], guard := none }
abbrev qLwEx8_27 : Oper := { dst := some 84, op := Op.buildSlice 23 3 #[(0, Operand.tmp 71), (1, Operand.tmp 73), (2, Operand.tmp 83)], type := 23, pos := "law.go:46", after := #[{ on := 0, ground := Ground.data }, { on := 2, ground := Ground.data }, { on := 12, ground := Ground.data }], guard := none }
abbrev qLwEx8_28 : Oper := { dst := some 85, op := Op.call { callee := Callee.builtin Builtin.len, args := #[Operand.tmp 84], argTypes := #[23] }, type := 3, pos := "law.go:46", after := #[{ on := 13, ground := Ground.data }], guard := none }
abbrev qLwEx8_29 : Oper := { dst := some 104, op := Op.move (Operand.tmp 16), type := 4, pos := "law.go:49", after := #[], guard := none }
abbrev qLwEx8_30 : Oper := { dst := some 105, op := Op.move (Operand.tmp 19), type := 4, pos := "law.go:49", after := #[], guard := none }
abbrev qLwEx8_31 : Oper := { dst := some 106, op := Op.binOp BinOp.neq 4 (Operand.tmp 104) (Operand.tmp 105) 4, type := 4, pos := "law.go:49", after := #[{ on := 0, ground := Ground.data }, { on := 1, ground := Ground.data }], guard := none }
abbrev qLwEx8_32 : Oper := { dst := some 107, op := Op.move (Operand.tmp 106), type := 4, pos := "law.go:49", after := #[{ on := 2, ground := Ground.data }], guard := none }
abbrev qLwEx8_33 : Oper := { dst := some 108, op := Op.move (Operand.tmp 17), type := 40, pos := "law.go:49", after := #[{ on := 3, ground := Ground.guard }], guard := some (3, false) }
abbrev qLwEx8_34 : Oper := { dst := some 109, op := Op.move (Operand.tmp 20), type := 40, pos := "law.go:49", after := #[{ on := 3, ground := Ground.guard }], guard := some (3, false) }
abbrev qLwEx8_35 : Oper := { dst := some 110, op := Op.binOp BinOp.neq 40 (Operand.tmp 108) (Operand.tmp 109) 40, type := 4, pos := "law.go:49", after := #[{ on := 4, ground := Ground.data }, { on := 5, ground := Ground.data }, { on := 3, ground := Ground.guard }], guard := some (3, false) }
abbrev qLwEx8_36 : Oper := { dst := some 111, op := Op.pick (Operand.tmp 107) (Operand.const (Value.bool true)) (Operand.tmp 110), type := 4, pos := "law.go:49", after := #[{ on := 3, ground := Ground.data }, { on := 6, ground := Ground.data }], guard := none }
abbrev qLwEx8_37 : Oper := { dst := some 112, op := Op.move (Operand.tmp 111), type := 4, pos := "law.go:49", after := #[{ on := 7, ground := Ground.data }, { on := 3, ground := Ground.chain }], guard := none }
abbrev qLwEx8_38 : Oper := { dst := some 113, op := Op.load 25 (Operand.tmp 15), type := 25, pos := "law.go:49", after := #[{ on := 8, ground := Ground.guard }], guard := some (8, false) }
abbrev qLwEx8_39 : Oper := { dst := some 114, op := Op.load 25 (Operand.tmp 18), type := 25, pos := "law.go:49", after := #[{ on := 8, ground := Ground.guard }], guard := some (8, false) }
abbrev qLwEx8_40 : Oper := { dst := some 115, op := Op.call { callee := Callee.value (Operand.func 19), args := #[Operand.tmp 113, Operand.tmp 114], argTypes := #[25, 25] }, type := 4, pos := "law.go:49", after := #[{ on := 9, ground := Ground.data }, { on := 10, ground := Ground.data }, { on := 8, ground := Ground.chain }, { on := 8, ground := Ground.guard }], guard := some (8, false) }
abbrev qLwEx8_41 : Oper := { dst := some 116, op := Op.unOp UnOp.not 4 (Operand.tmp 115), type := 4, pos := "law.go:49", after := #[{ on := 11, ground := Ground.data }, { on := 8, ground := Ground.guard }], guard := some (8, false) }
abbrev qLwEx8_42 : Oper := { dst := some 117, op := Op.pick (Operand.tmp 112) (Operand.const (Value.bool true)) (Operand.tmp 116), type := 4, pos := "law.go:49", after := #[{ on := 8, ground := Ground.data }, { on := 12, ground := Ground.data }], guard := none }
abbrev qLwEx8_43 : Oper := { dst := some 118, op := Op.move (Operand.tmp 117), type := 4, pos := "law.go:49", after := #[{ on := 13, ground := Ground.data }, { on := 11, ground := Ground.chain }], guard := none }
abbrev qLwEx8_44 : Oper := { dst := some 119, op := Op.load 25 (Operand.tmp 12), type := 25, pos := "law.go:49", after := #[{ on := 14, ground := Ground.guard }], guard := some (14, false) }
abbrev qLwEx8_45 : Oper := { dst := some 120, op := Op.fieldAddr 29 (Operand.tmp 14) 0, type := 0, pos := "law.go:49", after := #[{ on := 14, ground := Ground.guard }], guard := some (14, false) }
abbrev qLwEx8_46 : Oper := { dst := some 121, op := Op.load 3 (Operand.tmp 120), type := 3, pos := "law.go:49", after := #[{ on := 16, ground := Ground.data }, { on := 14, ground := Ground.guard }], guard := some (14, false) }
abbrev qLwEx8_47 : Oper := { dst := some 122, op := Op.fieldAddr 29 (Operand.tmp 14) 1, type := 0, pos := "law.go:49", after := #[{ on := 14, ground := Ground.guard }], guard := some (14, false) }
abbrev qLwEx8_48 : Oper := { dst := some 123, op := Op.load 27 (Operand.tmp 122), type := 27, pos := "law.go:49", after := #[{ on := 18, ground := Ground.data }, { on := 14, ground := Ground.guard }], guard := some (14, false) }
abbrev qLwEx8_49 : Oper := { dst := some 125, op := Op.load 25 (Operand.tmp 12), type := 25, pos := "law.go:49", after := #[{ on := 14, ground := Ground.guard }], guard := some (14, false) }
abbrev qLwEx8_50 : Oper := { dst := some 126, op := Op.fieldAddr 29 (Operand.tmp 14) 0, type := 0, pos := "law.go:49", after := #[{ on := 14, ground := Ground.guard }], guard := some (14, false) }
abbrev qLwEx8_51 : Oper := { dst := some 127, op := Op.load 3 (Operand.tmp 126), type := 3, pos := "law.go:49", after := #[{ on := 22, ground := Ground.data }, { on := 14, ground := Ground.guard }], guard := some (14, false) }
abbrev qLwEx8_52 : Oper := { dst := some 128, op := Op.fieldAddr 29 (Operand.tmp 14) 1, type := 0, pos := "law.go:49", after := #[{ on := 14, ground := Ground.guard }], guard := some (14, false) }
abbrev qLwEx8_53 : Oper := { dst := some 129, op := Op.load 27 (Operand.tmp 128), type := 27, pos := "law.go:49", after := #[{ on := 24, ground := Ground.data }, { on := 14, ground := Ground.guard }], guard := some (14, false) }
abbrev qLwEx8_54 : Oper := { dst := some 124, op := Op.call { callee := Callee.value (Operand.func 20), args := #[Operand.tmp 119, Operand.tmp 121, Operand.tmp 123], argTypes := #[25, 3, 27] }, type := 3, pos := "law.go:49", after := #[{ on := 15, ground := Ground.data }, { on := 17, ground := Ground.data }, { on := 19, ground := Ground.data }, { on := 14, ground := Ground.chain }, { on := 14, ground := Ground.guard }], guard := some (14, false) }
abbrev qLwEx8_55 : Oper := { dst := some 130, op := Op.call { callee := Callee.value (Operand.func 21), args := #[Operand.tmp 125, Operand.tmp 127, Operand.tmp 129], argTypes := #[25, 3, 27] }, type := 3, pos := "law.go:49", after := #[{ on := 21, ground := Ground.data }, { on := 23, ground := Ground.data }, { on := 25, ground := Ground.data }, { on := 20, ground := Ground.chain }, { on := 14, ground := Ground.guard }], guard := some (14, false) }
abbrev qLwEx8_56 : Oper := { dst := some 131, op := Op.binOp BinOp.neq 3 (Operand.tmp 124) (Operand.tmp 130) 3, type := 4, pos := "law.go:49", after := #[{ on := 20, ground := Ground.data }, { on := 26, ground := Ground.data }, { on := 14, ground := Ground.guard }], guard := some (14, false) }
abbrev qLwEx8_57 : Oper := { dst := some 132, op := Op.pick (Operand.tmp 118) (Operand.const (Value.bool true)) (Operand.tmp 131), type := 4, pos := "law.go:49", after := #[{ on := 14, ground := Ground.data }, { on := 27, ground := Ground.data }], guard := none }
abbrev qLwEx8_58 : Oper := { dst := some 133, op := Op.move (Operand.tmp 132), type := 4, pos := "law.go:49", after := #[{ on := 28, ground := Ground.data }, { on := 26, ground := Ground.chain }], guard := none }
abbrev qLwEx8_59 : Oper := { dst := some 134, op := Op.load 25 (Operand.tmp 12), type := 25, pos := "law.go:49", after := #[{ on := 29, ground := Ground.guard }], guard := some (29, false) }
abbrev qLwEx8_60 : Oper := { dst := some 135, op := Op.fieldAddr 29 (Operand.tmp 14) 0, type := 0, pos := "law.go:49", after := #[{ on := 29, ground := Ground.guard }], guard := some (29, false) }
abbrev qLwEx8_61 : Oper := { dst := some 136, op := Op.load 3 (Operand.tmp 135), type := 3, pos := "law.go:49", after := #[{ on := 31, ground := Ground.data }, { on := 29, ground := Ground.guard }], guard := some (29, false) }
abbrev qLwEx8_62 : Oper := { dst := some 137, op := Op.fieldAddr 29 (Operand.tmp 14) 1, type := 0, pos := "law.go:49", after := #[{ on := 29, ground := Ground.guard }], guard := some (29, false) }
abbrev qLwEx8_63 : Oper := { dst := some 138, op := Op.load 27 (Operand.tmp 137), type := 27, pos := "law.go:49", after := #[{ on := 33, ground := Ground.data }, { on := 29, ground := Ground.guard }], guard := some (29, false) }
abbrev qLwEx8_64 : Oper := { dst := some 140, op := Op.load 25 (Operand.tmp 12), type := 25, pos := "law.go:49", after := #[{ on := 29, ground := Ground.guard }], guard := some (29, false) }
abbrev qLwEx8_65 : Oper := { dst := some 141, op := Op.fieldAddr 29 (Operand.tmp 14) 0, type := 0, pos := "law.go:49", after := #[{ on := 29, ground := Ground.guard }], guard := some (29, false) }
abbrev qLwEx8_66 : Oper := { dst := some 142, op := Op.load 3 (Operand.tmp 141), type := 3, pos := "law.go:49", after := #[{ on := 37, ground := Ground.data }, { on := 29, ground := Ground.guard }], guard := some (29, false) }
abbrev qLwEx8_67 : Oper := { dst := some 143, op := Op.fieldAddr 29 (Operand.tmp 14) 1, type := 0, pos := "law.go:49", after := #[{ on := 29, ground := Ground.guard }], guard := some (29, false) }
abbrev qLwEx8_68 : Oper := { dst := some 144, op := Op.load 27 (Operand.tmp 143), type := 27, pos := "law.go:49", after := #[{ on := 39, ground := Ground.data }, { on := 29, ground := Ground.guard }], guard := some (29, false) }
abbrev qLwEx8_69 : Oper := { dst := some 139, op := Op.call { callee := Callee.value (Operand.func 22), args := #[Operand.tmp 134, Operand.tmp 136, Operand.tmp 138], argTypes := #[25, 3, 27] }, type := 25, pos := "law.go:49", after := #[{ on := 30, ground := Ground.data }, { on := 32, ground := Ground.data }, { on := 34, ground := Ground.data }, { on := 29, ground := Ground.chain }, { on := 29, ground := Ground.guard }], guard := some (29, false) }
abbrev qLwEx8_70 : Oper := { dst := some 145, op := Op.call { callee := Callee.value (Operand.func 23), args := #[Operand.tmp 140, Operand.tmp 142, Operand.tmp 144], argTypes := #[25, 3, 27] }, type := 25, pos := "law.go:49", after := #[{ on := 36, ground := Ground.data }, { on := 38, ground := Ground.data }, { on := 40, ground := Ground.data }, { on := 35, ground := Ground.chain }, { on := 29, ground := Ground.guard }], guard := some (29, false) }
abbrev qLwEx8_71 : Oper := { dst := some 146, op := Op.call { callee := Callee.value (Operand.func 19), args := #[Operand.tmp 139, Operand.tmp 145], argTypes := #[25, 25] }, type := 4, pos := "law.go:49", after := #[{ on := 35, ground := Ground.data }, { on := 41, ground := Ground.data }, { on := 41, ground := Ground.chain }, { on := 29, ground := Ground.guard }], guard := some (29, false) }
abbrev qLwEx8_72 : Oper := { dst := some 147, op := Op.unOp UnOp.not 4 (Operand.tmp 146), type := 4, pos := "law.go:49", after := #[{ on := 42, ground := Ground.data }, { on := 29, ground := Ground.guard }], guard := some (29, false) }
abbrev qLwEx8_73 : Oper := { dst := some 148, op := Op.pick (Operand.tmp 133) (Operand.const (Value.bool true)) (Operand.tmp 147), type := 4, pos := "law.go:49", after := #[{ on := 29, ground := Ground.data }, { on := 43, ground := Ground.data }], guard := none }
abbrev qLwEx8_74 : Oper := { dst := some 172, op := Op.load 29 (Operand.tmp 23), type := 29, pos := "law.go:56", after := #[], guard := none }
abbrev qLwEx8_75 : Oper := { dst := some 173, op := Op.load 29 (Operand.tmp 25), type := 29, pos := "law.go:56", after := #[], guard := none }
abbrev qLwEx8_76 : Oper := { dst := some 174, op := Op.binOp BinOp.neq 29 (Operand.tmp 172) (Operand.tmp 173) 29, type := 4, pos := "law.go:56", after := #[{ on := 0, ground := Ground.data }, { on := 1, ground := Ground.data }], guard := none }
abbrev qLwEx8_77 : Oper := { dst := some 175, op := Op.move (Operand.tmp 174), type := 4, pos := "law.go:56", after := #[{ on := 2, ground := Ground.data }], guard := none }
abbrev qLwEx8_78 : Oper := { dst := some 176, op := Op.move (Operand.tmp 24), type := 4, pos := "law.go:56", after := #[{ on := 3, ground := Ground.guard }], guard := some (3, false) }
abbrev qLwEx8_79 : Oper := { dst := some 177, op := Op.move (Operand.tmp 26), type := 4, pos := "law.go:56", after := #[{ on := 3, ground := Ground.guard }], guard := some (3, false) }
abbrev qLwEx8_80 : Oper := { dst := some 178, op := Op.binOp BinOp.neq 4 (Operand.tmp 176) (Operand.tmp 177) 4, type := 4, pos := "law.go:56", after := #[{ on := 4, ground := Ground.data }, { on := 5, ground := Ground.data }, { on := 3, ground := Ground.guard }], guard := some (3, false) }
abbrev qLwEx8_81 : Oper := { dst := some 179, op := Op.pick (Operand.tmp 175) (Operand.const (Value.bool true)) (Operand.tmp 178), type := 4, pos := "law.go:56", after := #[{ on := 3, ground := Ground.data }, { on := 6, ground := Ground.data }], guard := none }
abbrev qLwEx8_82 : Oper := { dst := some 180, op := Op.move (Operand.tmp 179), type := 4, pos := "law.go:56", after := #[{ on := 7, ground := Ground.data }, { on := 3, ground := Ground.chain }], guard := none }
abbrev qLwEx8_83 : Oper := { dst := some 181, op := Op.load 25 (Operand.tmp 12), type := 25, pos := "law.go:56", after := #[{ on := 8, ground := Ground.guard }], guard := some (8, false) }
abbrev qLwEx8_84 : Oper := { dst := some 182, op := Op.move (Operand.tmp 22), type := 3, pos := "law.go:56", after := #[{ on := 8, ground := Ground.guard }], guard := some (8, false) }
abbrev qLwEx8_85 : Oper := { dst := some 184, op := Op.load 25 (Operand.tmp 12), type := 25, pos := "law.go:56", after := #[{ on := 8, ground := Ground.guard }], guard := some (8, false) }
abbrev qLwEx8_86 : Oper := { dst := some 185, op := Op.move (Operand.tmp 22), type := 3, pos := "law.go:56", after := #[{ on := 8, ground := Ground.guard }], guard := some (8, false) }
abbrev qLwEx8_87 : Oper := { dst := some 183, op := Op.call { callee := Callee.value (Operand.func 26), args := #[Operand.tmp 181, Operand.tmp 182], argTypes := #[25, 3] }, type := 25, pos := "law.go:56", after := #[{ on := 9, ground := Ground.data }, { on := 10, ground := Ground.data }, { on := 8, ground := Ground.chain }, { on := 8, ground := Ground.guard }], guard := some (8, false) }
abbrev qLwEx8_88 : Oper := { dst := some 186, op := Op.call { callee := Callee.value (Operand.func 27), args := #[Operand.tmp 184, Operand.tmp 185], argTypes := #[25, 3] }, type := 25, pos := "law.go:56", after := #[{ on := 12, ground := Ground.data }, { on := 13, ground := Ground.data }, { on := 11, ground := Ground.chain }, { on := 8, ground := Ground.guard }], guard := some (8, false) }
abbrev qLwEx8_89 : Oper := { dst := some 187, op := Op.call { callee := Callee.value (Operand.func 19), args := #[Operand.tmp 183, Operand.tmp 186], argTypes := #[25, 25] }, type := 4, pos := "law.go:56", after := #[{ on := 11, ground := Ground.data }, { on := 14, ground := Ground.data }, { on := 14, ground := Ground.chain }, { on := 8, ground := Ground.guard }], guard := some (8, false) }
abbrev qLwEx8_90 : Oper := { dst := some 188, op := Op.unOp UnOp.not 4 (Operand.tmp 187), type := 4, pos := "law.go:56", after := #[{ on := 15, ground := Ground.data }, { on := 8, ground := Ground.guard }], guard := some (8, false) }
abbrev qLwEx8_91 : Oper := { dst := some 189, op := Op.pick (Operand.tmp 180) (Operand.const (Value.bool true)) (Operand.tmp 188), type := 4, pos := "law.go:56", after := #[{ on := 8, ground := Ground.data }, { on := 16, ground := Ground.data }], guard := none }
abbrev qLwEx8_92 : Oper := { dst := some 190, op := Op.move (Operand.tmp 189), type := 4, pos := "law.go:56", after := #[{ on := 17, ground := Ground.data }, { on := 15, ground := Ground.chain }], guard := none }
abbrev qLwEx8_93 : Oper := { dst := some 191, op := Op.load 25 (Operand.tmp 12), type := 25, pos := "law.go:56", after := #[{ on := 18, ground := Ground.guard }], guard := some (18, false) }
abbrev qLwEx8_94 : Oper := { dst := some 192, op := Op.move (Operand.tmp 22), type := 3, pos := "law.go:56", after := #[{ on := 18, ground := Ground.guard }], guard := some (18, false) }
abbrev qLwEx8_95 : Oper := { dst := some 194, op := Op.load 25 (Operand.tmp 12), type := 25, pos := "law.go:56", after := #[{ on := 18, ground := Ground.guard }], guard := some (18, false) }
abbrev qLwEx8_96 : Oper := { dst := some 195, op := Op.move (Operand.tmp 22), type := 3, pos := "law.go:56", after := #[{ on := 18, ground := Ground.guard }], guard := some (18, false) }
abbrev qLwEx8_97 : Oper := { dst := some 193, op := Op.call { callee := Callee.value (Operand.func 28), args := #[Operand.tmp 191, Operand.tmp 192], argTypes := #[25, 3] }, type := 25, pos := "law.go:56", after := #[{ on := 19, ground := Ground.data }, { on := 20, ground := Ground.data }, { on := 18, ground := Ground.chain }, { on := 18, ground := Ground.guard }], guard := some (18, false) }
abbrev qLwEx8_98 : Oper := { dst := some 196, op := Op.call { callee := Callee.value (Operand.func 29), args := #[Operand.tmp 194, Operand.tmp 195], argTypes := #[25, 3] }, type := 25, pos := "law.go:56", after := #[{ on := 22, ground := Ground.data }, { on := 23, ground := Ground.data }, { on := 21, ground := Ground.chain }, { on := 18, ground := Ground.guard }], guard := some (18, false) }
abbrev qLwEx8_99 : Oper := { dst := some 197, op := Op.call { callee := Callee.value (Operand.func 19), args := #[Operand.tmp 193, Operand.tmp 196], argTypes := #[25, 25] }, type := 4, pos := "law.go:56", after := #[{ on := 21, ground := Ground.data }, { on := 24, ground := Ground.data }, { on := 24, ground := Ground.chain }, { on := 18, ground := Ground.guard }], guard := some (18, false) }
abbrev qLwEx8_100 : Oper := { dst := some 198, op := Op.unOp UnOp.not 4 (Operand.tmp 197), type := 4, pos := "law.go:56", after := #[{ on := 25, ground := Ground.data }, { on := 18, ground := Ground.guard }], guard := some (18, false) }
abbrev qLwEx8_101 : Oper := { dst := some 199, op := Op.pick (Operand.tmp 190) (Operand.const (Value.bool true)) (Operand.tmp 198), type := 4, pos := "law.go:56", after := #[{ on := 18, ground := Ground.data }, { on := 26, ground := Ground.data }], guard := none }
set_option maxHeartbeats 16000000 in
theorem exact8_any (x : Option Addr) (len cap : Nat) (zs : List Int) {h v : Value} {t0 : Tb} {R0 : List Rng} (g : Gr) (tx : Int) (w : World) (hr : IsRow .u8 w x len cap zs) (ht : TbRd h v t0 R0) (hR0 : RdIn w R0) (hg : ∀ z, z ∈ t0.held ∨ z ∈ t0.wait → GoodGr z) (hgg : GoodGr g) (htx : (Lit.int .i64 tx).wf = true) :
  Calls Try.prog 3 #[.slice x len cap, .agg (tbCells h v).toArray, .agg (grCells g).toArray, .int .i64 tx] w fun e w' => e = .returned (.bool true) ∧ Below w.heap.size w w' := by
 obtain ⟨a0, c0, rfl, hnc, hcm⟩ := ht.1.shape
 obtain ⟨b0, d0, rfl, hnc2, hcm2⟩ := ht.2.shape
 have HR := Lib.hid hr
 have HT := Lib.hid ht
 have HR0 := Lib.hid hR0
 have HGr := Lib.hid hg
 have HG := Lib.hid hgg
 have HUX := Lib.hid under_grs
 have HUTS := Lib.hid under_tbs
 have HUI := Lib.hid under_is
 have hlh : (t0.held.length : Int) ≤ 9223372036854775807 := by unfold maxLen at hcm; omega
 have hlw : (t0.wait.length : Int) ≤ 9223372036854775807 := by unfold maxLen at hcm2; omega
 have h1 := (((Hp.startrd w R0 hR0).put 25 (tbCells (.slice a0 t0.held.length c0) (.slice b0 t0.wait.length d0))).put 29 (grCells g))
 simp only [World.size_alloc, List.nil_append, List.cons_append] at h1
 have h2 := h1.pull [1, 2, 0] (M := [.ob w.heap.size 25 (tbCells (.slice a0 t0.held.length c0) (.slice b0 t0.wait.length d0)), .ob (w.heap.size + 1) 29 (grCells g), .rd R0]) rfl (pull_nd h1.nd [1, 2, 0] rfl (by decide))
 have HS0 : Hid (Hp w [.ob w.heap.size 25 (tbCells (.slice a0 t0.held.length c0) (.slice b0 t0.wait.length d0)), .ob (w.heap.size + 1) 29 (grCells g), .rd R0] ((w.alloc (.cells (tbCells (.slice a0 t0.held.length c0) (.slice b0 t0.wait.length d0)).toArray 25)).alloc (.cells (grCells g).toArray 29))) := h2
 clear h1 h2 hr ht hR0 hg hgg hnc hcm hnc2 hcm2 htx
 obtain ⟨fsHUG, huHUG⟩ := under_gr
 have HUG := Lib.hid huHUG
 clear huHUG
 obtain ⟨fsHUK, huHUK⟩ := under_lk
 have HUK := Lib.hid huHUK
 clear huHUK
 obtain ⟨fsHUT, huHUT⟩ := under_tb
 have HUT := Lib.hid huHUT
 clear huHUT
 go_enter Try.func3, Try.ntmps3
 go_upto_region 1 with (fail)
 generalize ((w.alloc (.cells (tbCells (.slice a0 t0.held.length c0) (.slice b0 t0.wait.length d0)).toArray 25)).alloc (.cells (grCells g).toArray 29)) = w1 at *
 generalize w.heap.size + 1 = b6 at *
 generalize hb5 : w.heap.size = b5 at HS0 ⊢
 go_wp2_with fail
 refine (awake8 _).mono ?_
 rintro e w2 ⟨rfl, hb⟩
 have HS1 := Lib.hid (HS0.out.calls hb)
 clear hb HS0
 have q0 := HS1.out.at 0 rfl 0 rfl
 have q1 := HS1.out.at 0 rfl 1 rfl
 by_cases hh : 30 < (t0.held.length : Int)
 ·have dh : decide (30 < (t0.held.length : Int)) = true := decide_eq_true hh
  have dh' : 30 < t0.held.length := by omega
  clear hh
  go_wp2_with fail
  go_ret
  exact ⟨rfl, HS1.out.old⟩
 have dh : decide (30 < (t0.held.length : Int)) = false := decide_eq_false hh
 have dh' : ¬ 30 < t0.held.length := by omega
 have dh2 : t0.held.length ≤ 30 := by omega
 by_cases hw : 30 < (t0.wait.length : Int)
 ·have dw : decide (30 < (t0.wait.length : Int)) = true := decide_eq_true hw
  have dw' : 30 < t0.wait.length := by omega
  clear hh hw
  go_wp2_with fail
  go_ret
  exact ⟨rfl, HS1.out.old⟩
 have dw : decide (30 < (t0.wait.length : Int)) = false := decide_eq_false hw
 have dw' : ¬ 30 < t0.wait.length := by omega
 have dw2 : t0.wait.length ≤ 30 := by omega
 have HG0 : Hid (GoodTb t0) := Lib.hid ⟨fun z hz => HGr.out z (.inl hz), fun z hz => HGr.out z (.inr hz), by omega, by omega⟩
 clear hh hw HGr hlh hlw
 subst hb5
 go_wp2_with fail
 clear q0 q1 dh dh' dw dw' dh2 dw2
 refine (new_hp 200 (by decide) HS1.out HR.out).mono ?_
 rintro e w3 ⟨rfl, hs⟩
 have HS2 : Hid (Hp w [.ob w.heap.size 25 (tbCells (.slice a0 t0.held.length c0) (.slice b0 t0.wait.length d0)), .ob b6 29 (grCells g), .rd R0, .cd w2.heap.size] w3) := hs
 clear hs HS1
 generalize w2.heap.size = C at *
 generalize hb5 : w.heap.size = b5 at HS2 ⊢
 go_wp2_with fail
 refine (locks_any C _ (HS2.out.codes 3 rfl)).mono ?_
 rintro e w4 ⟨t1, h1, v1, R1, rfl, hst, hlen, hrd, hin, hnew, hb, hc⟩
 have hs := HS2.out.drawsrd2 3 rfl hb hc R1 hin (fun r hr => .inl (hnew r hr))
 obtain ⟨a1, c1, rfl, _, _⟩ := hrd.1.shape
 obtain ⟨b1, d1, rfl, _, _⟩ := hrd.2.shape
 have HT1 := Lib.hid hrd
 have HG1 := Lib.hid hst.ok.good
 have HL1 := Lib.hid hlen
 have HS3 : Hid (Hp w [.ob b5 25 (tbCells (.slice a0 t0.held.length c0) (.slice b0 t0.wait.length d0)), .ob b6 29 (grCells g), .rd R0, .cd C, .rd R1] w4) := hs
 clear hs hst hlen hrd hin hnew hb hc HS2
 go_upto_region 5 with (first | ((with_reducible refine wpList_alloc_ob 25 (tbCells (.slice none 0 0) (.slice none 0 0)) ?_ ?_); (exact alloc_tb); simp only [Act.put, List.setIfInBounds_toArray, List.set_cons_zero, List.set_cons_succ]) | ((with_reducible refine wpList_store_ob 25 (.tmp 10) (w4.heap.size) (tbCells (.slice a1 t1.held.length c1) (.slice b1 t1.wait.length d1)) (tbCells (.slice none 0 0) (.slice none 0 0)) 25 ?_ ?_ ?_ ?_ ?_ ?_ ?_); (exact rfl); (exact rfl); (exact ((HS3.out).put 25 (tbCells (.slice none 0 0) (.slice none 0 0))).get 5 rfl); (exact info_tb); (exact rfl); (exact (oneCell_tb _ _ _ _ _ _)); skip))
 have HS21 : Hid (Hp w [.ob b5 25 (tbCells (.slice a0 t0.held.length c0) (.slice b0 t0.wait.length d0)), .ob b6 29 (grCells g), .rd R0, .cd C, .rd R1, .ob (w4.heap.size) 25 (tbCells (.slice a1 t1.held.length c1) (.slice b1 t1.wait.length d1))] ((w4.alloc (.cells (tbCells (.slice none 0 0) (.slice none 0 0)).toArray 25)).setRow (w4.heap.size) (tbCells (.slice a1 t1.held.length c1) (.slice b1 t1.wait.length d1)).toArray)) := ((HS3.out).put 25 (tbCells (.slice none 0 0) (.slice none 0 0))).row 5 rfl (tbCells (.slice a1 t1.held.length c1) (.slice b1 t1.wait.length d1))
 clear HS3
 generalize ((w4.alloc (.cells (tbCells (.slice none 0 0) (.slice none 0 0)).toArray 25)).setRow (w4.heap.size) (tbCells (.slice a1 t1.held.length c1) (.slice b1 t1.wait.length d1)).toArray) = w21 at *
 generalize w4.heap.size = B21 at *
 refine wp_region_held_drew (S := fun w' => w'.rangeAt b5 0 (tbCells (.slice a0 t0.held.length c0) (.slice b0 t0.wait.length d0)) ∧ w'.rangeAt B21 0 (tbCells (.slice a1 t1.held.length c1) (.slice b1 t1.wait.length d1))) (by kernel_rfl) (⟨(fun j v hv => by rw [Nat.zero_add]; exact ((HS21.out).drew).at 0 rfl j hv), (fun j v hv => by rw [Nat.zero_add]; exact ((HS21.out).drew).at 5 rfl j hv)⟩) (fun hHeld => ?_)
 refine tk 0 qLwEx8_0 (some 55) (yieldsIf_load_mid (by rfl) 25 (.tmp 5) rfl b5 (0) rfl (tbCells (.slice a0 t0.held.length c0) (.slice b0 t0.wait.length d0)) _ (fun _ h => h.1) HUT.out rfl (info_tb)) hHeld ?_
 try simp only [z0, z1, z2, z3]
 refine tk 1 qLwEx8_1 (some 56) (yieldsIf_load_mid (by rfl) 25 (.tmp 10) rfl B21 (0) rfl (tbCells (.slice a1 t1.held.length c1) (.slice b1 t1.wait.length d1)) _ (fun _ h => h.2) HUT.out rfl (info_tb)) hHeld ?_
 try simp only [z0, z1, z2, z3]
 refine tk 2 qLwEx8_2 (some 57) (v := ?q3v) (Or.inl ⟨by rfl, ?q3h⟩) hHeld ?q3r
 case q3h => (intro wq hSw; clear hSw; go_simp; try with_reducible rfl)
 try simp only [z0, z1, z2, z3]
 refine tk 3 qLwEx8_3 (some 58) (yieldsIf_load_mid (by rfl) 25 (.tmp 10) rfl B21 (0) rfl (tbCells (.slice a1 t1.held.length c1) (.slice b1 t1.wait.length d1)) _ (fun _ h => h.2) HUT.out rfl (info_tb)) hHeld ?_
 try simp only [z0, z1, z2, z3]
 refine tk 7 qLwEx8_4 (some 62) (v := ?q5v) (Or.inl ⟨by rfl, ?q5h⟩) hHeld ?q5r
 case q5h => (intro wq hSw; clear hSw; go_simp; try with_reducible rfl)
 try simp only [z0, z1, z2, z3]
 refine tn 4 qLwEx8_5 (fun K hK => ?_)
 go_simp
 go_wp2_with (go_at_call 11; refine (odd8_any C _ (((HS21.out).drew).codes 3 rfl) HT1.out (((HS21.out).drew).reads 4 rfl) HG1.out (by have := HL1.out; unfold tbLen at this; omega) (by intro h; obtain ⟨r, hr, hre⟩ := List.mem_map.1 h; exact ((HS21.out).drew).reads_apart (x := .cd C) (z := .rd R1) (List.mem_of_getElem? (i := 3) rfl) (List.mem_of_getElem? (i := 4) rfl) (b := C) rfl (List.mem_map.2 ⟨r, hr, hre⟩))).mono ?_; rintro e w22 ⟨t2, h2, v2, R2, rfl, hgo, hrd2, hin2, hnew2, hb, hc⟩)
 obtain ⟨a2, c2, rfl, _, _⟩ := hrd2.1.shape
 obtain ⟨b2, d2, rfl, _, _⟩ := hrd2.2.shape
 have HT2 := Lib.hid hrd2
 have HG2 := Lib.hid hgo
 have HS22 : Hid (Hp w [.ob b5 25 (tbCells (.slice a0 t0.held.length c0) (.slice b0 t0.wait.length d0)), .ob b6 29 (grCells g), .rd R0, .cd C, .rd R1, .ob B21 25 (tbCells (.slice a1 t1.held.length c1) (.slice b1 t1.wait.length d1)), .rd R2] w22) := ((HS21.out).drew).drawsrd2 3 rfl hb hc R2 hin2 (fun r hr => (hnew2 r hr).elim .inl (fun h => .inr ⟨.rd R1, List.mem_of_getElem? (i := 4) rfl, h⟩))
 refine hK.out _ _ (⟨(fun j v hv => by rw [Nat.zero_add]; exact (HS22.out).at 0 rfl j hv), (fun j v hv => by rw [Nat.zero_add]; exact (HS22.out).at 5 rfl j hv)⟩) (fun hHeld => ?_)
 clear hK K hb hc hin2 hrd2 hnew2 hgo
 try simp only [z0, z1, z2, z3]
 refine tn 5 qLwEx8_6 (fun K hK => ?_)
 rw [if_pos (by rfl)]
 refine wp_build_obs rfl elem_tb HUTS.out [tbCells (.slice a0 t0.held.length c0) (.slice b0 t0.wait.length d0), tbCells (.slice a1 t1.held.length c1) (.slice b1 t1.wait.length d1), tbCells (.slice a2 t2.held.length c2) (.slice b2 t2.wait.length d2)] (List.forall_mem_cons.2 ⟨rfl, (List.forall_mem_cons.2 ⟨rfl, (List.forall_mem_cons.2 ⟨rfl, (fun _ h => absurd h List.not_mem_nil)⟩)⟩)⟩) (Nat.succ_pos _) (by simp only [List.length_cons, List.length_nil]; omega) rfl (by simp only [List.map_toArray, List.map_cons, List.map_nil, List.zipIdx_cons, List.zipIdx_nil]; exact rfl) ?_
 have HS23 : Hid (Hp w [.ob b5 25 (tbCells (.slice a0 t0.held.length c0) (.slice b0 t0.wait.length d0)), .ob b6 29 (grCells g), .rd R0, .cd C, .rd R1, .ob B21 25 (tbCells (.slice a1 t1.held.length c1) (.slice b1 t1.wait.length d1)), .rd R2, .ob (w22.heap.size) 25 (([tbCells (.slice a0 t0.held.length c0) (.slice b0 t0.wait.length d0), tbCells (.slice a1 t1.held.length c1) (.slice b1 t1.wait.length d1), tbCells (.slice a2 t2.held.length c2) (.slice b2 t2.wait.length d2)] : List (List Value)).flatMap id)] (w22.alloc (.cells (([tbCells (.slice a0 t0.held.length c0) (.slice b0 t0.wait.length d0), tbCells (.slice a1 t1.held.length c1) (.slice b1 t1.wait.length d1), tbCells (.slice a2 t2.held.length c2) (.slice b2 t2.wait.length d2)] : List (List Value)).flatMap id).toArray 25))) := (HS22.out).put 25 (([tbCells (.slice a0 t0.held.length c0) (.slice b0 t0.wait.length d0), tbCells (.slice a1 t1.held.length c1) (.slice b1 t1.wait.length d1), tbCells (.slice a2 t2.held.length c2) (.slice b2 t2.wait.length d2)] : List (List Value)).flatMap id)
 refine hK.out _ _ (⟨(fun j v hv => by rw [Nat.zero_add]; exact (HS23.out).at 0 rfl j hv), (fun j v hv => by rw [Nat.zero_add]; exact (HS23.out).at 5 rfl j hv)⟩) (fun hHeld => ?_)
 clear hK K
 generalize (w22.alloc (.cells (([tbCells (.slice a0 t0.held.length c0) (.slice b0 t0.wait.length d0), tbCells (.slice a1 t1.held.length c1) (.slice b1 t1.wait.length d1), tbCells (.slice a2 t2.held.length c2) (.slice b2 t2.wait.length d2)] : List (List Value)).flatMap id).toArray 25)) = w23 at *
 generalize w22.heap.size = B22 at *
 try simp only [z0, z1, z2, z3]
 refine tk 6 qLwEx8_7 (some 61) (v := ?q6v) (Or.inl ⟨by rfl, ?q6h⟩) hHeld ?q6r
 case q6h => (intro wq hSw; clear hSw; go_simp; try with_reducible rfl)
 try simp only [z0, z1, z2, z3]
 refine wpAnyH_done (by kernel_rfl) ?_ _
 clear hHeld
 have HS24 : Hid (Hp w [.cd C, .ob b6 29 (grCells g), .ob B22 25 (([tbCells (.slice a0 t0.held.length c0) (.slice b0 t0.wait.length d0), tbCells (.slice a1 t1.held.length c1) (.slice b1 t1.wait.length d1), tbCells (.slice a2 t2.held.length c2) (.slice b2 t2.wait.length d2)] : List (List Value)).flatMap id), .rd R0, .rd R1, .rd R2] w23) := HS23.out.pull [3, 1, 7, 2, 4, 6] rfl (pull_nd HS23.out.nd [3, 1, 7, 2, 4, 6] rfl (by decide))
 clear HS23
 have hm := Hp.rdmerge (A := [.cd C, .ob b6 29 (grCells g), .ob B22 25 (([tbCells (.slice a0 t0.held.length c0) (.slice b0 t0.wait.length d0), tbCells (.slice a1 t1.held.length c1) (.slice b1 t1.wait.length d1), tbCells (.slice a2 t2.held.length c2) (.slice b2 t2.wait.length d2)] : List (List Value)).flatMap id)]) (Hp.rdmerge (A := [.cd C, .ob b6 29 (grCells g), .ob B22 25 (([tbCells (.slice a0 t0.held.length c0) (.slice b0 t0.wait.length d0), tbCells (.slice a1 t1.held.length c1) (.slice b1 t1.wait.length d1), tbCells (.slice a2 t2.held.length c2) (.slice b2 t2.wait.length d2)] : List (List Value)).flatMap id), .rd R0]) HS24.out)
 have HM : Hid (Hp w [.cd C, .ob b6 29 (grCells g), .ob B22 25 (([tbCells (.slice a0 t0.held.length c0) (.slice b0 t0.wait.length d0), tbCells (.slice a1 t1.held.length c1) (.slice b1 t1.wait.length d1), tbCells (.slice a2 t2.held.length c2) (.slice b2 t2.wait.length d2)] : List (List Value)).flatMap id), .rd (R0 ++ (R1 ++ R2))] w23) := hm
 have HX0 : Hid (TbRd (.slice a0 t0.held.length c0) (.slice b0 t0.wait.length d0) t0 (R0 ++ (R1 ++ R2))) := Lib.hid (HT.out.mono (fun r hr => by simp [hr]))
 have HX1 : Hid (TbRd (.slice a1 t1.held.length c1) (.slice b1 t1.wait.length d1) t1 (R0 ++ (R1 ++ R2))) := Lib.hid (HT1.out.mono (fun r hr => by simp [hr]))
 have HX2 : Hid (TbRd (.slice a2 t2.held.length c2) (.slice b2 t2.wait.length d2) t2 (R0 ++ (R1 ++ R2))) := Lib.hid (HT2.out.mono (fun r hr => by simp [hr]))
 have HTh := Lib.hid (fun i hi => three_tb HX0.out HX1.out HX2.out HG0.out HG1.out HG2.out i hi)
 clear hm HS24 HT HT1 HT2 HX0 HX1 HX2 HR0 HG0 HG1 HG2 HL1
 generalize R0 ++ (R1 ++ R2) = R at *
 generalize (([tbCells (.slice a0 t0.held.length c0) (.slice b0 t0.wait.length d0), tbCells (.slice a1 t1.held.length c1) (.slice b1 t1.wait.length d1), tbCells (.slice a2 t2.held.length c2) (.slice b2 t2.wait.length d2)] : List (List Value)).flatMap id) = arr at *
 go_wp2_with fail
 go_loopw [62] (fun iv wr => ∃ i : Nat, iv = .int .i64 i ∧ i ≤ 3 ∧ Hp w [.cd C, .ob b6 29 (grCells g), .ob B22 25 arr, .rd R] wr) (fun iv _ => 3 - (intOf iv).toNat)
 case atStart => exact ⟨0, rfl, by omega, HM.out⟩
 case round =>
  clear HM
  obtain ⟨i, rfl, hi, hs⟩ := hrel
  have HY := Lib.hid hs
  clear hs
  by_cases hlt : i < 3
  ·obtain ⟨t, a, b, c, d, hrd, hgt, hcell⟩ := HTh.out i hlt
   have HRd := Lib.hid hrd
   have HGt := Lib.hid hgt
   have HCe := Lib.hid hcell
   have HLt := Lib.hid hlt
   have hii : (i : Int) < 3 := by omega
   have hi0 : (0 : Int) ≤ (i : Int) := by omega
   clear hrd hgt hcell hi hlt
   go_upto_region 8 with (first | ((with_reducible refine wpList_load_at 25 (.tmp 64) B22 ((i * 2)) (tbCells (.slice a t.held.length c) (.slice b t.wait.length d)) HUT.out ?_ ?_ ?_ ?_ ?_); (exact rfl); (exact (fun j v hv => (HY.out).at 2 rfl (i * 2 + j) (HCe.out j v hv))); (exact rfl); (exact info_tb); simp only [Act.put, List.setIfInBounds_toArray, List.set_cons_zero, List.set_cons_succ]) | ((with_reducible refine wpList_alloc_ob 25 (tbCells (.slice none 0 0) (.slice none 0 0)) ?_ ?_); (exact alloc_tb); simp only [Act.put, List.setIfInBounds_toArray, List.set_cons_zero, List.set_cons_succ]) | ((with_reducible refine wpList_store_ob 25 (.tmp 12) (wr.heap.size) (tbCells (.slice a t.held.length c) (.slice b t.wait.length d)) (tbCells (.slice none 0 0) (.slice none 0 0)) 25 ?_ ?_ ?_ ?_ ?_ ?_ ?_); (exact rfl); (exact rfl); (exact ((HY.out).put 25 (tbCells (.slice none 0 0) (.slice none 0 0))).get 4 rfl); (exact info_tb); (exact rfl); (exact (oneCell_tb _ _ _ _ _ _)); skip))
   have HS101 : Hid (Hp w [.cd C, .ob b6 29 (grCells g), .ob B22 25 arr, .rd R, .ob (wr.heap.size) 25 (tbCells (.slice a t.held.length c) (.slice b t.wait.length d))] ((wr.alloc (.cells (tbCells (.slice none 0 0) (.slice none 0 0)).toArray 25)).setRow (wr.heap.size) (tbCells (.slice a t.held.length c) (.slice b t.wait.length d)).toArray)) := ((HY.out).put 25 (tbCells (.slice none 0 0) (.slice none 0 0))).row 4 rfl (tbCells (.slice a t.held.length c) (.slice b t.wait.length d))
   clear HY
   generalize ((wr.alloc (.cells (tbCells (.slice none 0 0) (.slice none 0 0)).toArray 25)).setRow (wr.heap.size) (tbCells (.slice a t.held.length c) (.slice b t.wait.length d)).toArray) = w101 at *
   generalize wr.heap.size = B101 at *
   have HVp : Hid (∀ W, RdIn W R → Calls Try.prog 12 #[.agg (tbCells (.slice a t.held.length c) (.slice b t.wait.length d)).toArray] W fun e w' => e = .returned (.bool (tbOkB t)) ∧ Below W.heap.size W w') := Lib.hid (fun W h => plkvalid_any W HRd.out h HGt.out)
   have HVr : Hid (∀ W, RdIn W R → Calls Try.prog 13 #[.agg (tbCells (.slice a t.held.length c) (.slice b t.wait.length d)).toArray] W fun e w' => e = .returned (.bool (tbOkB t)) ∧ Below W.heap.size W w') := Lib.hid (fun W h => rlkvalid_any W HRd.out h HGt.out)
   generalize tbOkB t = ok at *
   refine wp_region_held_drew (S := fun w' => w'.rangeAt B101 0 (tbCells (.slice a t.held.length c) (.slice b t.wait.length d))) (by kernel_rfl) ((fun j v hv => by rw [Nat.zero_add]; exact ((HS101.out).drew).at 4 rfl j hv)) (fun hHeld => ?_)
   refine tk 0 qLwEx8_8 (some 66) (yieldsIf_load_mid (by rfl) 25 (.tmp 12) rfl B101 (0) rfl (tbCells (.slice a t.held.length c) (.slice b t.wait.length d)) _ (fun _ h => h) HUT.out rfl (info_tb)) hHeld ?_
   try simp only [z0, z1, z2, z3]
   refine tk 2 qLwEx8_9 (some 68) (yieldsIf_load_mid (by rfl) 25 (.tmp 12) rfl B101 (0) rfl (tbCells (.slice a t.held.length c) (.slice b t.wait.length d)) _ (fun _ h => h) HUT.out rfl (info_tb)) hHeld ?_
   try simp only [z0, z1, z2, z3]
   refine tn 1 qLwEx8_10 (fun K hK => ?_)
   go_simp
   go_wp2_with (go_at_call 12; refine (HVp.out _ (((HS101.out).drew).reads 3 rfl)).mono ?_; rintro e w102 ⟨rfl, hb⟩)
   have HS102 := Lib.hid (((HS101.out).drew).calls hb)
   refine hK.out _ _ ((fun j v hv => by rw [Nat.zero_add]; exact (HS102.out).at 4 rfl j hv)) (fun hHeld => ?_)
   clear hK K hb
   try simp only [z0, z1, z2, z3]
   refine tn 3 qLwEx8_11 (fun K hK => ?_)
   go_simp
   go_wp2_with (go_at_call 13; refine (HVr.out _ ((HS102.out).reads 3 rfl)).mono ?_; rintro e w103 ⟨rfl, hb⟩)
   have HS103 := Lib.hid ((HS102.out).calls hb)
   refine hK.out _ _ ((fun j v hv => by rw [Nat.zero_add]; exact (HS103.out).at 4 rfl j hv)) (fun hHeld => ?_)
   clear hK K hb
   try simp only [z0, z1, z2, z3]
   refine tk 4 qLwEx8_12 (some 70) (v := .bool false) (Or.inl ⟨by rfl, ?q103h⟩) hHeld ?q103r
   case q103h => (intro wq hSw; clear hSw; go_simp; try with_reducible rfl)
   try simp only [z0, z1, z2, z3]
   refine wpAnyH_done (by kernel_rfl) ?_ _
   clear hHeld HVp HVr
   go_upto_region 10 with (fail)
   refine wp_region_held_drew (S := fun w' => w'.rangeAt B101 0 (tbCells (.slice a t.held.length c) (.slice b t.wait.length d)) ∧ w'.rangeAt b6 0 (grCells g)) (by kernel_rfl) (⟨(fun j v hv => by rw [Nat.zero_add]; exact ((HS103.out).drew).at 4 rfl j hv), (fun j v hv => by rw [Nat.zero_add]; exact ((HS103.out).drew).at 1 rfl j hv)⟩) (fun hHeld => ?_)
   refine tk 0 qLwEx8_13 (some 71) (yieldsIf_load_mid (by rfl) 29 (.tmp 6) rfl b6 (0) rfl (grCells g) _ (fun _ h => h.2) HUG.out rfl (info_gr)) hHeld ?_
   try simp only [z0, z1, z2, z3]
   refine tk 1 qLwEx8_14 (some 72) (v := ?q105v) (Or.inl ⟨by rfl, ?q105h⟩) hHeld ?q105r
   case q105h => (intro wq hSw; clear hSw; go_simp; try with_reducible rfl)
   try simp only [z0, z1, z2, z3]
   refine tk 3 qLwEx8_15 (some 74) (v := ?q106v) (Or.inl ⟨by rfl, ?q106h⟩) hHeld ?q106r
   case q106h => (intro wq hSw; clear hSw; go_simp; try with_reducible rfl)
   try simp only [z0, z1, z2, z3]
   refine tk 5 qLwEx8_16 (some 76) (v := ?q107v) (Or.inl ⟨by rfl, ?q107h⟩) hHeld ?q107r
   case q107h => (intro wq hSw; clear hSw; go_simp; try with_reducible rfl)
   try simp only [z0, z1, z2, z3]
   refine tk 7 qLwEx8_17 (some 78) (v := ?q108v) (Or.inl ⟨by rfl, ?q108h⟩) hHeld ?q108r
   case q108h => (intro wq hSw; clear hSw; go_simp; try with_reducible rfl)
   try simp only [z0, z1, z2, z3]
   refine tk 10 qLwEx8_18 (some 81) (v := ?q109v) (Or.inl ⟨by rfl, ?q109h⟩) hHeld ?q109r
   case q109h => (intro wq hSw; clear hSw; go_simp; try with_reducible rfl)
   try simp only [z0, z1, z2, z3]
   refine tk 15 qLwEx8_19 (some 86) (v := ?q110v) (Or.inl ⟨by rfl, ?q110h⟩) hHeld ?q110r
   case q110h => (intro wq hSw; clear hSw; go_simp; try with_reducible rfl)
   try simp only [z0, z1, z2, z3]
   refine tn 2 qLwEx8_20 (fun K hK => ?_)
   go_simp
   go_wp2_with (go_at_call 14; refine (grant_any C _ (((HS103.out).drew).codes 0 rfl)).mono ?_; rintro e w104 ⟨g1, rfl, hg1, hb, hc, _⟩)
   have HS104 : Hid (Hp w [.cd C, .ob b6 29 (grCells g), .ob B22 25 arr, .rd R, .ob B101 25 (tbCells (.slice a t.held.length c) (.slice b t.wait.length d))] w104) := ((HS103.out).drew).draws 0 rfl hb hc
   refine hK.out _ _ (⟨(fun j v hv => by rw [Nat.zero_add]; exact (HS104.out).at 4 rfl j hv), (fun j v hv => by rw [Nat.zero_add]; exact (HS104.out).at 1 rfl j hv)⟩) (fun hHeld => ?_)
   clear hK K hb hc
   have HG1 := Lib.hid hg1.good
   clear hg1
   try simp only [z0, z1, z2, z3]
   refine tn 4 qLwEx8_21 (fun K hK => ?_)
   go_simp
   go_wp2_with (go_at_call 15; refine (int_any C _ ((HS104.out).codes 0 rfl)).mono ?_; rintro e w105 ⟨y1, rfl, y1a, y1b, hb, hc⟩)
   have HS105 : Hid (Hp w [.cd C, .ob b6 29 (grCells g), .ob B22 25 arr, .rd R, .ob B101 25 (tbCells (.slice a t.held.length c) (.slice b t.wait.length d))] w105) := (HS104.out).draws 0 rfl hb hc
   refine hK.out _ _ (⟨(fun j v hv => by rw [Nat.zero_add]; exact (HS105.out).at 4 rfl j hv), (fun j v hv => by rw [Nat.zero_add]; exact (HS105.out).at 1 rfl j hv)⟩) (fun hHeld => ?_)
   clear hK K hb hc
   try simp only [z0, z1, z2, z3]
   refine tn 6 qLwEx8_22 (fun K hK => ?_)
   go_simp
   go_wp2_with (go_at_call 15; refine (int_any C _ ((HS105.out).codes 0 rfl)).mono ?_; rintro e w106 ⟨y2, rfl, y2a, y2b, hb, hc⟩)
   have HS106 : Hid (Hp w [.cd C, .ob b6 29 (grCells g), .ob B22 25 arr, .rd R, .ob B101 25 (tbCells (.slice a t.held.length c) (.slice b t.wait.length d))] w106) := (HS105.out).draws 0 rfl hb hc
   refine hK.out _ _ (⟨(fun j v hv => by rw [Nat.zero_add]; exact (HS106.out).at 4 rfl j hv), (fun j v hv => by rw [Nat.zero_add]; exact (HS106.out).at 1 rfl j hv)⟩) (fun hHeld => ?_)
   clear hK K hb hc
   try simp only [z0, z1, z2, z3]
   refine tn 8 qLwEx8_23 (fun K hK => ?_)
   go_simp
   go_wp2_with (go_at_call 16; refine (next_any C 3 _ ((HS106.out).codes 0 rfl) (by omega)).mono ?_; rintro e w107 ⟨n3, rfl, n3a, n3b, hb, hc⟩)
   have HS107 : Hid (Hp w [.cd C, .ob b6 29 (grCells g), .ob B22 25 arr, .rd R, .ob B101 25 (tbCells (.slice a t.held.length c) (.slice b t.wait.length d))] w107) := (HS106.out).draws 0 rfl hb hc
   refine hK.out _ _ (⟨(fun j v hv => by rw [Nat.zero_add]; exact (HS107.out).at 4 rfl j hv), (fun j v hv => by rw [Nat.zero_add]; exact (HS107.out).at 1 rfl j hv)⟩) (fun hHeld => ?_)
   clear hK K hb hc
   try simp only [z0, z1, z2, z3]
   refine tk 9 qLwEx8_24 (some 80) (yieldsIf_build_v (by rfl) 27 (.agg (lkCells (⟨y2, n3⟩ : Lok)).toArray) rfl (fun W => by simp only [List.map_toArray, List.map_cons, List.map_nil]; exact build_lk3 _ _ W)) hHeld ?_
   try simp only [z0, z1, z2, z3]
   refine tn 11 qLwEx8_25 (fun K hK => ?_)
   go_simp
   go_wp2_with (go_at_call 16; refine (next_any C 4 _ ((HS107.out).codes 0 rfl) (by omega)).mono ?_; rintro e w108 ⟨n4, rfl, n4a, n4b, hb, hc⟩)
   have HS108 : Hid (Hp w [.cd C, .ob b6 29 (grCells g), .ob B22 25 arr, .rd R, .ob B101 25 (tbCells (.slice a t.held.length c) (.slice b t.wait.length d))] w108) := (HS107.out).draws 0 rfl hb hc
   refine hK.out _ _ (⟨(fun j v hv => by rw [Nat.zero_add]; exact (HS108.out).at 4 rfl j hv), (fun j v hv => by rw [Nat.zero_add]; exact (HS108.out).at 1 rfl j hv)⟩) (fun hHeld => ?_)
   clear hK K hb hc
   try simp only [z0, z1, z2, z3]
   refine tk 12 qLwEx8_26 (some 83) (yieldsIf_build_v (by rfl) 29 (.agg (grCells (⟨y1, y2, n3, n4⟩ : Gr)).toArray) rfl (fun W => by simp only [List.map_toArray, List.map_cons, List.map_nil]; exact build_gr4 _ _ _ _ W)) hHeld ?_
   try simp only [z0, z1, z2, z3]
   refine tn 13 qLwEx8_27 (fun K hK => ?_)
   rw [if_pos (by rfl)]
   refine wp_build_obs rfl elem_gr HUX.out [grCells g, grCells g1, grCells (⟨y1, y2, n3, n4⟩ : Gr)] (List.forall_mem_cons.2 ⟨rfl, (List.forall_mem_cons.2 ⟨rfl, (List.forall_mem_cons.2 ⟨rfl, (fun _ h => absurd h List.not_mem_nil)⟩)⟩)⟩) (Nat.succ_pos _) (by simp only [List.length_cons, List.length_nil]; omega) rfl (by simp only [List.map_toArray, List.map_cons, List.map_nil, List.zipIdx_cons, List.zipIdx_nil]; exact rfl) ?_
   have HS109 : Hid (Hp w [.cd C, .ob b6 29 (grCells g), .ob B22 25 arr, .rd R, .ob B101 25 (tbCells (.slice a t.held.length c) (.slice b t.wait.length d)), .ob (w108.heap.size) 29 (([grCells g, grCells g1, grCells (⟨y1, y2, n3, n4⟩ : Gr)] : List (List Value)).flatMap id)] (w108.alloc (.cells (([grCells g, grCells g1, grCells (⟨y1, y2, n3, n4⟩ : Gr)] : List (List Value)).flatMap id).toArray 29))) := (HS108.out).put 29 (([grCells g, grCells g1, grCells (⟨y1, y2, n3, n4⟩ : Gr)] : List (List Value)).flatMap id)
   refine hK.out _ _ (⟨(fun j v hv => by rw [Nat.zero_add]; exact (HS109.out).at 4 rfl j hv), (fun j v hv => by rw [Nat.zero_add]; exact (HS109.out).at 1 rfl j hv)⟩) (fun hHeld => ?_)
   clear hK K
   generalize (w108.alloc (.cells (([grCells g, grCells g1, grCells (⟨y1, y2, n3, n4⟩ : Gr)] : List (List Value)).flatMap id).toArray 29)) = w109 at *
   generalize w108.heap.size = B102 at *
   try simp only [z0, z1, z2, z3]
   refine tk 14 qLwEx8_28 (some 85) (v := ?q113v) (Or.inl ⟨by rfl, ?q113h⟩) hHeld ?q113r
   case q113h => (intro wq hSw; clear hSw; go_simp; try with_reducible rfl)
   try simp only [z0, z1, z2, z3]
   refine wpAnyH_done (by kernel_rfl) ?_ _
   clear hHeld
   have HS110 : Hid (Hp w [.cd C, .ob b6 29 (grCells g), .ob B22 25 arr, .rd R, .ob B101 25 (tbCells (.slice a t.held.length c) (.slice b t.wait.length d)), .ob B102 29 (([grCells g, grCells g1, grCells (⟨y1, y2, n3, n4⟩ : Gr)] : List (List Value)).flatMap id)] w109) := HS109.out.pull [0, 1, 2, 3, 4, 5] rfl (pull_nd HS109.out.nd [0, 1, 2, 3, 4, 5] rfl (by decide))
   clear HS109
   have hg2 : GoodGr ⟨y1, y2, n3, n4⟩ := ⟨lk_wf ⟨by omega, by omega⟩, lk_wf ⟨by omega, by omega⟩, lk_wf ⟨by show _ ≤ n3; omega, by show n3 ≤ _; omega⟩, lk_wf ⟨by show _ ≤ n4; omega, by show n4 ≤ _; omega⟩⟩
   have HTg := Lib.hid (fun i hi => three_gr HG.out HG1.out hg2 i hi)
   clear hg2 HG1 y1a y1b y2a y2b n3a n3b n4a n4b
   generalize (([grCells g, grCells g1, grCells (⟨y1, y2, n3, n4⟩ : Gr)] : List (List Value)).flatMap id) = grr at *
   go_wp2_with fail
   go_loopw [86] (fun iv wr => ∃ k : Nat, iv = .int .i64 k ∧ k ≤ 3 ∧ Hp w [.cd C, .ob b6 29 (grCells g), .ob B22 25 arr, .rd R, .ob B101 25 (tbCells (.slice a t.held.length c) (.slice b t.wait.length d)), .ob B102 29 grr] wr) (fun iv _ => 3 - (intOf iv).toNat)
   case atStart => exact ⟨0, rfl, by omega, HS110.out⟩
   case round =>
    clear HS110
    obtain ⟨k, rfl, hk, hs⟩ := hrel
    have HY := Lib.hid hs
    clear hs
    by_cases hlt : k < 3
    ·obtain ⟨y, hgy, hcy⟩ := HTg.out k hlt
     have HGy := Lib.hid hgy
     have HCy := Lib.hid hcy
     have HLk := Lib.hid hlt
     have hkk : (k : Int) < 3 := by omega
     have hk0 : (0 : Int) ≤ (k : Int) := by omega
     clear hgy hcy hk hlt
     obtain ⟨u, bb, cd, hu⟩ : ∃ u bb cd, requestR t y = (u, bb, cd) := ⟨_, _, _, rfl⟩
     have HUe := Lib.hid hu
     have HGu : Hid (GoodTb u) := Lib.hid (by have := request_good (g := y) HGt.out; rw [hu] at this; exact this)
     clear hu
     go_wp2_with (first | ((with_reducible refine wpList_load_at 29 (.tmp 88) B102 ((k * 4)) (grCells y) HUG.out ?_ ?_ ?_ ?_ ?_); (exact rfl); (exact (fun j v hv => (HY.out).at 5 rfl (k * 4 + j) (HCy.out j v hv))); (exact rfl); (exact info_gr); simp only [Act.put, List.setIfInBounds_toArray, List.set_cons_zero, List.set_cons_succ]) | ((with_reducible refine wpList_alloc_ob 29 (grCells grNil) ?_ ?_); (exact alloc_gr); simp only [Act.put, List.setIfInBounds_toArray, List.set_cons_zero, List.set_cons_succ]) | ((with_reducible refine wpList_store_ob 29 (.tmp 14) (wr.heap.size) (grCells y) (grCells grNil) 29 ?_ ?_ ?_ ?_ ?_ ?_ ?_); (exact rfl); (exact rfl); (exact ((HY.out).put 29 (grCells grNil)).get 6 rfl); (exact info_gr); (exact rfl); (exact (oneCell_gr _)); skip) | ((with_reducible refine wpList_load_ob 25 (.tmp 12) B101 (tbCells (.slice a t.held.length c) (.slice b t.wait.length d)) 25 HUT.out ?_ ?_ ?_ ?_ ?_); (exact rfl); (exact (((HY.out).put 29 (grCells grNil)).row 6 rfl (grCells y)).get 4 rfl); (exact rfl); (exact info_tb); simp only [Act.put, List.setIfInBounds_toArray, List.set_cons_zero, List.set_cons_succ]) | ((with_reducible refine wpList_load_ob 29 (.tmp 14) (wr.heap.size) (grCells y) 29 HUG.out ?_ ?_ ?_ ?_ ?_); (exact rfl); (exact (((HY.out).put 29 (grCells grNil)).row 6 rfl (grCells y)).get 6 rfl); (exact rfl); (exact info_gr); simp only [Act.put, List.setIfInBounds_toArray, List.set_cons_zero, List.set_cons_succ]))
     refine (tb3_as HUe.out (prequest_any y _ HRd.out ((((HY.out).put 29 (grCells grNil)).row 6 rfl (grCells y)).reads 3 rfl) HGt.out HGy.out)).mono ?_
     rintro e w301 ⟨h9, v9, Rp, rfl, hrd2, hin2, hnew2, hb⟩
     obtain ⟨ap, cp, rfl, _, _⟩ := hrd2.1.shape
     obtain ⟨bp, dp, rfl, _, _⟩ := hrd2.2.shape
     have Hrdp := Lib.hid hrd2
     have HS301 : Hid (Hp w [.cd C, .ob b6 29 (grCells g), .ob B22 25 arr, .rd R, .ob B101 25 (tbCells (.slice a t.held.length c) (.slice b t.wait.length d)), .ob B102 29 grr, .ob (wr.heap.size) 29 (grCells y), .rd Rp] w301) := (((HY.out).put 29 (grCells grNil)).row 6 rfl (grCells y)).addrd hb Rp hin2 (fun r hr => (hnew2 r hr).elim .inl (fun h => .inr ⟨.rd R, List.mem_of_getElem? (i := 3) rfl, h⟩))
     clear hb hin2 hrd2 hnew2
     clear HY
     generalize wr.heap.size = B301 at *
     go_wp2_with (first | ((with_reducible refine wpList_alloc_ob 25 (tbCells (.slice none 0 0) (.slice none 0 0)) ?_ ?_); (exact alloc_tb); simp only [Act.put, List.setIfInBounds_toArray, List.set_cons_zero, List.set_cons_succ]) | ((with_reducible refine wpList_store_ob 25 (.tmp 15) (w301.heap.size) (tbCells (.slice ap u.held.length cp) (.slice bp u.wait.length dp)) (tbCells (.slice none 0 0) (.slice none 0 0)) 25 ?_ ?_ ?_ ?_ ?_ ?_ ?_); (exact rfl); (exact rfl); (exact ((HS301.out).put 25 (tbCells (.slice none 0 0) (.slice none 0 0))).get 8 rfl); (exact info_tb); (exact rfl); (exact (oneCell_tb _ _ _ _ _ _)); skip) | ((with_reducible refine wpList_load_ob 25 (.tmp 12) B101 (tbCells (.slice a t.held.length c) (.slice b t.wait.length d)) 25 HUT.out ?_ ?_ ?_ ?_ ?_); (exact rfl); (exact (((HS301.out).put 25 (tbCells (.slice none 0 0) (.slice none 0 0))).row 8 rfl (tbCells (.slice ap u.held.length cp) (.slice bp u.wait.length dp))).get 4 rfl); (exact rfl); (exact info_tb); simp only [Act.put, List.setIfInBounds_toArray, List.set_cons_zero, List.set_cons_succ]) | ((with_reducible refine wpList_load_ob 29 (.tmp 14) B301 (grCells y) 29 HUG.out ?_ ?_ ?_ ?_ ?_); (exact rfl); (exact (((HS301.out).put 25 (tbCells (.slice none 0 0) (.slice none 0 0))).row 8 rfl (tbCells (.slice ap u.held.length cp) (.slice bp u.wait.length dp))).get 6 rfl); (exact rfl); (exact info_gr); simp only [Act.put, List.setIfInBounds_toArray, List.set_cons_zero, List.set_cons_succ]))
     refine (tb3_as HUe.out (rrequest_any y _ HRd.out ((((HS301.out).put 25 (tbCells (.slice none 0 0) (.slice none 0 0))).row 8 rfl (tbCells (.slice ap u.held.length cp) (.slice bp u.wait.length dp))).reads 3 rfl) HGt.out HGy.out)).mono ?_
     rintro e w302 ⟨h9, v9, Rq, rfl, hrd2, hin2, hnew2, hb⟩
     obtain ⟨aq, cq, rfl, _, _⟩ := hrd2.1.shape
     obtain ⟨bq, dq, rfl, _, _⟩ := hrd2.2.shape
     have Hrdq := Lib.hid hrd2
     have HS302 : Hid (Hp w [.cd C, .ob b6 29 (grCells g), .ob B22 25 arr, .rd R, .ob B101 25 (tbCells (.slice a t.held.length c) (.slice b t.wait.length d)), .ob B102 29 grr, .ob B301 29 (grCells y), .rd Rp, .ob (w301.heap.size) 25 (tbCells (.slice ap u.held.length cp) (.slice bp u.wait.length dp)), .rd Rq] w302) := (((HS301.out).put 25 (tbCells (.slice none 0 0) (.slice none 0 0))).row 8 rfl (tbCells (.slice ap u.held.length cp) (.slice bp u.wait.length dp))).addrd hb Rq hin2 (fun r hr => (hnew2 r hr).elim .inl (fun h => .inr ⟨.rd R, List.mem_of_getElem? (i := 3) rfl, h⟩))
     clear hb hin2 hrd2 hnew2
     clear HS301
     generalize w301.heap.size = B302 at *
     go_upto_region 15 with (first | ((with_reducible refine wpList_alloc_ob 25 (tbCells (.slice none 0 0) (.slice none 0 0)) ?_ ?_); (exact alloc_tb); simp only [Act.put, List.setIfInBounds_toArray, List.set_cons_zero, List.set_cons_succ]) | ((with_reducible refine wpList_store_ob 25 (.tmp 18) (w302.heap.size) (tbCells (.slice aq u.held.length cq) (.slice bq u.wait.length dq)) (tbCells (.slice none 0 0) (.slice none 0 0)) 25 ?_ ?_ ?_ ?_ ?_ ?_ ?_); (exact rfl); (exact rfl); (exact ((HS302.out).put 25 (tbCells (.slice none 0 0) (.slice none 0 0))).get 10 rfl); (exact info_tb); (exact rfl); (exact (oneCell_tb _ _ _ _ _ _)); skip))
     have HS303 : Hid (Hp w [.cd C, .ob b6 29 (grCells g), .ob B22 25 arr, .rd R, .ob B101 25 (tbCells (.slice a t.held.length c) (.slice b t.wait.length d)), .ob B102 29 grr, .ob B301 29 (grCells y), .rd Rp, .ob B302 25 (tbCells (.slice ap u.held.length cp) (.slice bp u.wait.length dp)), .rd Rq, .ob (w302.heap.size) 25 (tbCells (.slice aq u.held.length cq) (.slice bq u.wait.length dq))] ((w302.alloc (.cells (tbCells (.slice none 0 0) (.slice none 0 0)).toArray 25)).setRow (w302.heap.size) (tbCells (.slice aq u.held.length cq) (.slice bq u.wait.length dq)).toArray)) := ((HS302.out).put 25 (tbCells (.slice none 0 0) (.slice none 0 0))).row 10 rfl (tbCells (.slice aq u.held.length cq) (.slice bq u.wait.length dq))
     clear HS302
     generalize ((w302.alloc (.cells (tbCells (.slice none 0 0) (.slice none 0 0)).toArray 25)).setRow (w302.heap.size) (tbCells (.slice aq u.held.length cq) (.slice bq u.wait.length dq)).toArray) = w303 at *
     generalize w302.heap.size = B303 at *
     have HMp : Hid (∀ W, RdIn W R → Calls Try.prog 20 #[.agg (tbCells (.slice a t.held.length c) (.slice b t.wait.length d)).toArray, .int .i64 y.tx, .agg (lkCells y.lock).toArray] W fun e w' => e = .returned (.int .i64 (modeT t y.tx y.page y.slot)) ∧ Below W.heap.size W w') := Lib.hid (fun W h => pMode_any y.tx y.lock W HRd.out h HGt.out HGy.out.lock)
     have HMr : Hid (∀ W, RdIn W R → Calls Try.prog 21 #[.agg (tbCells (.slice a t.held.length c) (.slice b t.wait.length d)).toArray, .int .i64 y.tx, .agg (lkCells y.lock).toArray] W fun e w' => e = .returned (.int .i64 (modeT t y.tx y.page y.slot)) ∧ Below W.heap.size W w') := Lib.hid (fun W h => rMode_any y.tx y.lock W HRd.out h HGt.out HGy.out.lock)
     generalize modeT t y.tx y.page y.slot = md at *
     have HGd := Lib.hid (drop_good HGt.out y.tx y.page y.slot)
     refine wp_region_held_drew (S := fun w' => w'.rangeAt B101 0 (tbCells (.slice a t.held.length c) (.slice b t.wait.length d)) ∧ w'.rangeAt B301 0 (grCells y) ∧ w'.rangeAt B302 0 (tbCells (.slice ap u.held.length cp) (.slice bp u.wait.length dp)) ∧ w'.rangeAt B303 0 (tbCells (.slice aq u.held.length cq) (.slice bq u.wait.length dq))) (by kernel_rfl) (⟨(fun j v hv => by rw [Nat.zero_add]; exact ((HS303.out).drew).at 4 rfl j hv), (fun j v hv => by rw [Nat.zero_add]; exact ((HS303.out).drew).at 6 rfl j hv), (fun j v hv => by rw [Nat.zero_add]; exact ((HS303.out).drew).at 8 rfl j hv), (fun j v hv => by rw [Nat.zero_add]; exact ((HS303.out).drew).at 10 rfl j hv)⟩) (fun hHeld => ?_)
     refine tk 0 qLwEx8_29 (some 104) (v := ?q701v) (Or.inl ⟨by rfl, ?q701h⟩) hHeld ?q701r
     case q701h => (intro wq hSw; clear hSw; go_simp; try with_reducible rfl)
     try simp only [z0, z1, z2, z3]
     refine tk 1 qLwEx8_30 (some 105) (v := ?q702v) (Or.inl ⟨by rfl, ?q702h⟩) hHeld ?q702r
     case q702h => (intro wq hSw; clear hSw; go_simp; try with_reducible rfl)
     try simp only [z0, z1, z2, z3]
     refine tk 2 qLwEx8_31 (some 106) (v := .bool false) (Or.inl ⟨by rfl, ?q703h⟩) hHeld ?q703r
     case q703h => (intro wq hSw; clear hSw; go_simp; try with_reducible rfl)
     try simp only [z0, z1, z2, z3]
     refine tk 3 qLwEx8_32 (some 107) (v := ?q704v) (Or.inl ⟨by rfl, ?q704h⟩) hHeld ?q704r
     case q704h => (intro wq hSw; clear hSw; go_simp; try with_reducible rfl)
     try simp only [z0, z1, z2, z3]
     refine tk 4 qLwEx8_33 (some 108) (v := ?q705v) (Or.inl ⟨by rfl, ?q705h⟩) hHeld ?q705r
     case q705h => (intro wq hSw; clear hSw; go_simp; try with_reducible rfl)
     try simp only [z0, z1, z2, z3]
     refine tk 5 qLwEx8_34 (some 109) (v := ?q706v) (Or.inl ⟨by rfl, ?q706h⟩) hHeld ?q706r
     case q706h => (intro wq hSw; clear hSw; go_simp; try with_reducible rfl)
     try simp only [z0, z1, z2, z3]
     refine tk 6 qLwEx8_35 (some 110) (v := .bool false) (Or.inl ⟨by rfl, ?q707h⟩) hHeld ?q707r
     case q707h => (intro wq hSw; clear hSw; go_simp; try with_reducible rfl)
     try simp only [z0, z1, z2, z3]
     refine tk 7 qLwEx8_36 (some 111) (v := ?q708v) (Or.inl ⟨by rfl, ?q708h⟩) hHeld ?q708r
     case q708h => (intro wq hSw; clear hSw; go_simp; try with_reducible rfl)
     try simp only [z0, z1, z2, z3]
     refine tk 8 qLwEx8_37 (some 112) (v := ?q709v) (Or.inl ⟨by rfl, ?q709h⟩) hHeld ?q709r
     case q709h => (intro wq hSw; clear hSw; go_simp; try with_reducible rfl)
     try simp only [z0, z1, z2, z3]
     refine tk 9 qLwEx8_38 (some 113) (yieldsIf_load_mid (by rfl) 25 (.tmp 15) rfl B302 (0) rfl (tbCells (.slice ap u.held.length cp) (.slice bp u.wait.length dp)) _ (fun _ h => h.2.2.1) HUT.out rfl (info_tb)) hHeld ?_
     try simp only [z0, z1, z2, z3]
     refine tk 10 qLwEx8_39 (some 114) (yieldsIf_load_mid (by rfl) 25 (.tmp 18) rfl B303 (0) rfl (tbCells (.slice aq u.held.length cq) (.slice bq u.wait.length dq)) _ (fun _ h => h.2.2.2) HUT.out rfl (info_tb)) hHeld ?_
     try simp only [z0, z1, z2, z3]
     refine tn 11 qLwEx8_40 (fun K hK => ?_)
     go_simp
     go_wp2_with (go_at_call 19; refine (rSame_tb _ Hrdp.out (((HS303.out).drew).reads 7 rfl) Hrdq.out (((HS303.out).drew).reads 9 rfl) HGu.out).mono ?_; rintro e w304 ⟨rfl, hb⟩)
     have HS304 := Lib.hid (((HS303.out).drew).calls hb)
     refine hK.out _ _ (⟨(fun j v hv => by rw [Nat.zero_add]; exact (HS304.out).at 4 rfl j hv), (fun j v hv => by rw [Nat.zero_add]; exact (HS304.out).at 6 rfl j hv), (fun j v hv => by rw [Nat.zero_add]; exact (HS304.out).at 8 rfl j hv), (fun j v hv => by rw [Nat.zero_add]; exact (HS304.out).at 10 rfl j hv)⟩) (fun hHeld => ?_)
     clear hK K hb
     try simp only [z0, z1, z2, z3]
     refine tk 12 qLwEx8_41 (some 116) (v := ?q712v) (Or.inl ⟨by rfl, ?q712h⟩) hHeld ?q712r
     case q712h => (intro wq hSw; clear hSw; go_simp; try with_reducible rfl)
     try simp only [z0, z1, z2, z3]
     refine tk 13 qLwEx8_42 (some 117) (v := ?q713v) (Or.inl ⟨by rfl, ?q713h⟩) hHeld ?q713r
     case q713h => (intro wq hSw; clear hSw; go_simp; try with_reducible rfl)
     try simp only [z0, z1, z2, z3]
     refine tk 14 qLwEx8_43 (some 118) (v := ?q714v) (Or.inl ⟨by rfl, ?q714h⟩) hHeld ?q714r
     case q714h => (intro wq hSw; clear hSw; go_simp; try with_reducible rfl)
     try simp only [z0, z1, z2, z3]
     refine tk 15 qLwEx8_44 (some 119) (yieldsIf_load_mid (by rfl) 25 (.tmp 12) rfl B101 (0) rfl (tbCells (.slice a t.held.length c) (.slice b t.wait.length d)) _ (fun _ h => h.1) HUT.out rfl (info_tb)) hHeld ?_
     try simp only [z0, z1, z2, z3]
     refine tk 16 qLwEx8_45 (some 120) (v := ?q716v) (Or.inl ⟨by rfl, ?q716h⟩) hHeld ?q716r
     case q716h => (intro wq hSw; clear hSw; go_simp; try with_reducible rfl)
     try simp only [z0, z1, z2, z3]
     refine tk 17 qLwEx8_46 (some 121) (v := .int .i64 y.tx) (Or.inl ⟨by rfl, ?q717h⟩) hHeld ?q717r
     case q717h => (intro wq hSw; have lq := (hSw.2.1) 0 (.int .i64 y.tx) rfl; simp only [Nat.zero_add] at lq; clear hSw; go_simp; try with_reducible rfl)
     try simp only [z0, z1, z2, z3]
     refine tk 18 qLwEx8_47 (some 122) (v := ?q718v) (Or.inl ⟨by rfl, ?q718h⟩) hHeld ?q718r
     case q718h => (intro wq hSw; clear hSw; go_simp; try with_reducible rfl)
     try simp only [z0, z1, z2, z3]
     refine tk 19 qLwEx8_48 (some 123) (yieldsIf_load_mid (by rfl) 27 (.tmp 122) rfl B301 (1) rfl (lkCells y.lock) _ (fun _ h => range_part (h.2.1) (mid_lk y)) HUK.out rfl (info_lk)) hHeld ?_
     try simp only [z0, z1, z2, z3]
     refine tk 21 qLwEx8_49 (some 125) (yieldsIf_load_mid (by rfl) 25 (.tmp 12) rfl B101 (0) rfl (tbCells (.slice a t.held.length c) (.slice b t.wait.length d)) _ (fun _ h => h.1) HUT.out rfl (info_tb)) hHeld ?_
     try simp only [z0, z1, z2, z3]
     refine tk 22 qLwEx8_50 (some 126) (v := ?q721v) (Or.inl ⟨by rfl, ?q721h⟩) hHeld ?q721r
     case q721h => (intro wq hSw; clear hSw; go_simp; try with_reducible rfl)
     try simp only [z0, z1, z2, z3]
     refine tk 23 qLwEx8_51 (some 127) (v := .int .i64 y.tx) (Or.inl ⟨by rfl, ?q722h⟩) hHeld ?q722r
     case q722h => (intro wq hSw; have lq := (hSw.2.1) 0 (.int .i64 y.tx) rfl; simp only [Nat.zero_add] at lq; clear hSw; go_simp; try with_reducible rfl)
     try simp only [z0, z1, z2, z3]
     refine tk 24 qLwEx8_52 (some 128) (v := ?q723v) (Or.inl ⟨by rfl, ?q723h⟩) hHeld ?q723r
     case q723h => (intro wq hSw; clear hSw; go_simp; try with_reducible rfl)
     try simp only [z0, z1, z2, z3]
     refine tk 25 qLwEx8_53 (some 129) (yieldsIf_load_mid (by rfl) 27 (.tmp 128) rfl B301 (1) rfl (lkCells y.lock) _ (fun _ h => range_part (h.2.1) (mid_lk y)) HUK.out rfl (info_lk)) hHeld ?_
     try simp only [z0, z1, z2, z3]
     refine tn 20 qLwEx8_54 (fun K hK => ?_)
     go_simp
     go_wp2_with (go_at_call 20; refine (HMp.out _ ((HS304.out).reads 3 rfl)).mono ?_; rintro e w305 ⟨rfl, hb⟩)
     have HS305 := Lib.hid ((HS304.out).calls hb)
     refine hK.out _ _ (⟨(fun j v hv => by rw [Nat.zero_add]; exact (HS305.out).at 4 rfl j hv), (fun j v hv => by rw [Nat.zero_add]; exact (HS305.out).at 6 rfl j hv), (fun j v hv => by rw [Nat.zero_add]; exact (HS305.out).at 8 rfl j hv), (fun j v hv => by rw [Nat.zero_add]; exact (HS305.out).at 10 rfl j hv)⟩) (fun hHeld => ?_)
     clear hK K hb
     try simp only [z0, z1, z2, z3]
     refine tn 26 qLwEx8_55 (fun K hK => ?_)
     go_simp
     go_wp2_with (go_at_call 21; refine (HMr.out _ ((HS305.out).reads 3 rfl)).mono ?_; rintro e w306 ⟨rfl, hb⟩)
     have HS306 := Lib.hid ((HS305.out).calls hb)
     refine hK.out _ _ (⟨(fun j v hv => by rw [Nat.zero_add]; exact (HS306.out).at 4 rfl j hv), (fun j v hv => by rw [Nat.zero_add]; exact (HS306.out).at 6 rfl j hv), (fun j v hv => by rw [Nat.zero_add]; exact (HS306.out).at 8 rfl j hv), (fun j v hv => by rw [Nat.zero_add]; exact (HS306.out).at 10 rfl j hv)⟩) (fun hHeld => ?_)
     clear hK K hb
     try simp only [z0, z1, z2, z3]
     refine tk 27 qLwEx8_56 (some 131) (v := .bool false) (Or.inl ⟨by rfl, ?q725h⟩) hHeld ?q725r
     case q725h => (intro wq hSw; clear hSw; go_simp; try with_reducible rfl)
     try simp only [z0, z1, z2, z3]
     refine tk 28 qLwEx8_57 (some 132) (v := ?q726v) (Or.inl ⟨by rfl, ?q726h⟩) hHeld ?q726r
     case q726h => (intro wq hSw; clear hSw; go_simp; try with_reducible rfl)
     try simp only [z0, z1, z2, z3]
     refine tk 29 qLwEx8_58 (some 133) (v := ?q727v) (Or.inl ⟨by rfl, ?q727h⟩) hHeld ?q727r
     case q727h => (intro wq hSw; clear hSw; go_simp; try with_reducible rfl)
     try simp only [z0, z1, z2, z3]
     refine tk 30 qLwEx8_59 (some 134) (yieldsIf_load_mid (by rfl) 25 (.tmp 12) rfl B101 (0) rfl (tbCells (.slice a t.held.length c) (.slice b t.wait.length d)) _ (fun _ h => h.1) HUT.out rfl (info_tb)) hHeld ?_
     try simp only [z0, z1, z2, z3]
     refine tk 31 qLwEx8_60 (some 135) (v := ?q729v) (Or.inl ⟨by rfl, ?q729h⟩) hHeld ?q729r
     case q729h => (intro wq hSw; clear hSw; go_simp; try with_reducible rfl)
     try simp only [z0, z1, z2, z3]
     refine tk 32 qLwEx8_61 (some 136) (v := .int .i64 y.tx) (Or.inl ⟨by rfl, ?q730h⟩) hHeld ?q730r
     case q730h => (intro wq hSw; have lq := (hSw.2.1) 0 (.int .i64 y.tx) rfl; simp only [Nat.zero_add] at lq; clear hSw; go_simp; try with_reducible rfl)
     try simp only [z0, z1, z2, z3]
     refine tk 33 qLwEx8_62 (some 137) (v := ?q731v) (Or.inl ⟨by rfl, ?q731h⟩) hHeld ?q731r
     case q731h => (intro wq hSw; clear hSw; go_simp; try with_reducible rfl)
     try simp only [z0, z1, z2, z3]
     refine tk 34 qLwEx8_63 (some 138) (yieldsIf_load_mid (by rfl) 27 (.tmp 137) rfl B301 (1) rfl (lkCells y.lock) _ (fun _ h => range_part (h.2.1) (mid_lk y)) HUK.out rfl (info_lk)) hHeld ?_
     try simp only [z0, z1, z2, z3]
     refine tk 36 qLwEx8_64 (some 140) (yieldsIf_load_mid (by rfl) 25 (.tmp 12) rfl B101 (0) rfl (tbCells (.slice a t.held.length c) (.slice b t.wait.length d)) _ (fun _ h => h.1) HUT.out rfl (info_tb)) hHeld ?_
     try simp only [z0, z1, z2, z3]
     refine tk 37 qLwEx8_65 (some 141) (v := ?q734v) (Or.inl ⟨by rfl, ?q734h⟩) hHeld ?q734r
     case q734h => (intro wq hSw; clear hSw; go_simp; try with_reducible rfl)
     try simp only [z0, z1, z2, z3]
     refine tk 38 qLwEx8_66 (some 142) (v := .int .i64 y.tx) (Or.inl ⟨by rfl, ?q735h⟩) hHeld ?q735r
     case q735h => (intro wq hSw; have lq := (hSw.2.1) 0 (.int .i64 y.tx) rfl; simp only [Nat.zero_add] at lq; clear hSw; go_simp; try with_reducible rfl)
     try simp only [z0, z1, z2, z3]
     refine tk 39 qLwEx8_67 (some 143) (v := ?q736v) (Or.inl ⟨by rfl, ?q736h⟩) hHeld ?q736r
     case q736h => (intro wq hSw; clear hSw; go_simp; try with_reducible rfl)
     try simp only [z0, z1, z2, z3]
     refine tk 40 qLwEx8_68 (some 144) (yieldsIf_load_mid (by rfl) 27 (.tmp 143) rfl B301 (1) rfl (lkCells y.lock) _ (fun _ h => range_part (h.2.1) (mid_lk y)) HUK.out rfl (info_lk)) hHeld ?_
     try simp only [z0, z1, z2, z3]
     refine tn 35 qLwEx8_69 (fun K hK => ?_)
     go_simp
     go_wp2_with (go_at_call 22; refine (pdrop_any y.tx y.lock _ HRd.out ((HS306.out).reads 3 rfl) HGt.out HGy.out.lock).mono ?_; rintro e w307 ⟨h9, v9, Rx, rfl, hrd2, hin2, hnew2, hb⟩)
     obtain ⟨ax, cx, rfl, _, _⟩ := hrd2.1.shape
     obtain ⟨bx, dx, rfl, _, _⟩ := hrd2.2.shape
     have Hrdx := Lib.hid hrd2
     have HS307 : Hid (Hp w [.cd C, .ob b6 29 (grCells g), .ob B22 25 arr, .rd R, .ob B101 25 (tbCells (.slice a t.held.length c) (.slice b t.wait.length d)), .ob B102 29 grr, .ob B301 29 (grCells y), .rd Rp, .ob B302 25 (tbCells (.slice ap u.held.length cp) (.slice bp u.wait.length dp)), .rd Rq, .ob B303 25 (tbCells (.slice aq u.held.length cq) (.slice bq u.wait.length dq)), .rd Rx] w307) := (HS306.out).addrd hb Rx hin2 (fun r hr => (hnew2 r hr).elim .inl (fun h => .inr ⟨.rd R, List.mem_of_getElem? (i := 3) rfl, h⟩))
     refine hK.out _ _ (⟨(fun j v hv => by rw [Nat.zero_add]; exact (HS307.out).at 4 rfl j hv), (fun j v hv => by rw [Nat.zero_add]; exact (HS307.out).at 6 rfl j hv), (fun j v hv => by rw [Nat.zero_add]; exact (HS307.out).at 8 rfl j hv), (fun j v hv => by rw [Nat.zero_add]; exact (HS307.out).at 10 rfl j hv)⟩) (fun hHeld => ?_)
     clear hK K hb hin2 hrd2 hnew2
     try simp only [z0, z1, z2, z3]
     refine tn 41 qLwEx8_70 (fun K hK => ?_)
     go_simp
     go_wp2_with (go_at_call 23; refine (rdrop_any y.tx y.lock _ HRd.out ((HS307.out).reads 3 rfl) HGt.out HGy.out.lock).mono ?_; rintro e w308 ⟨h9, v9, Rz, rfl, hrd2, hin2, hnew2, hb⟩)
     obtain ⟨az, cz, rfl, _, _⟩ := hrd2.1.shape
     obtain ⟨bz, dz, rfl, _, _⟩ := hrd2.2.shape
     have Hrdz := Lib.hid hrd2
     have HS308 : Hid (Hp w [.cd C, .ob b6 29 (grCells g), .ob B22 25 arr, .rd R, .ob B101 25 (tbCells (.slice a t.held.length c) (.slice b t.wait.length d)), .ob B102 29 grr, .ob B301 29 (grCells y), .rd Rp, .ob B302 25 (tbCells (.slice ap u.held.length cp) (.slice bp u.wait.length dp)), .rd Rq, .ob B303 25 (tbCells (.slice aq u.held.length cq) (.slice bq u.wait.length dq)), .rd Rx, .rd Rz] w308) := (HS307.out).addrd hb Rz hin2 (fun r hr => (hnew2 r hr).elim .inl (fun h => .inr ⟨.rd R, List.mem_of_getElem? (i := 3) rfl, h⟩))
     refine hK.out _ _ (⟨(fun j v hv => by rw [Nat.zero_add]; exact (HS308.out).at 4 rfl j hv), (fun j v hv => by rw [Nat.zero_add]; exact (HS308.out).at 6 rfl j hv), (fun j v hv => by rw [Nat.zero_add]; exact (HS308.out).at 8 rfl j hv), (fun j v hv => by rw [Nat.zero_add]; exact (HS308.out).at 10 rfl j hv)⟩) (fun hHeld => ?_)
     clear hK K hb hin2 hrd2 hnew2
     try simp only [z0, z1, z2, z3]
     refine tn 42 qLwEx8_71 (fun K hK => ?_)
     go_simp
     go_wp2_with (go_at_call 19; refine (rSame_tb _ Hrdx.out ((HS308.out).reads 11 rfl) Hrdz.out ((HS308.out).reads 12 rfl) HGd.out).mono ?_; rintro e w309 ⟨rfl, hb⟩)
     have HS309 := Lib.hid ((HS308.out).calls hb)
     refine hK.out _ _ (⟨(fun j v hv => by rw [Nat.zero_add]; exact (HS309.out).at 4 rfl j hv), (fun j v hv => by rw [Nat.zero_add]; exact (HS309.out).at 6 rfl j hv), (fun j v hv => by rw [Nat.zero_add]; exact (HS309.out).at 8 rfl j hv), (fun j v hv => by rw [Nat.zero_add]; exact (HS309.out).at 10 rfl j hv)⟩) (fun hHeld => ?_)
     clear hK K hb
     try simp only [z0, z1, z2, z3]
     refine tk 43 qLwEx8_72 (some 147) (v := ?q738v) (Or.inl ⟨by rfl, ?q738h⟩) hHeld ?q738r
     case q738h => (intro wq hSw; clear hSw; go_simp; try with_reducible rfl)
     try simp only [z0, z1, z2, z3]
     refine tk 44 qLwEx8_73 (some 148) (v := ?q739v) (Or.inl ⟨by rfl, ?q739h⟩) hHeld ?q739r
     case q739h => (intro wq hSw; clear hSw; go_simp; try with_reducible rfl)
     try simp only [z0, z1, z2, z3]
     refine wpAnyH_done (by kernel_rfl) ?_ _
     clear hHeld
     have HS310 : Hid (Hp w [.cd C, .ob b6 29 (grCells g), .ob B22 25 arr, .rd R, .ob B101 25 (tbCells (.slice a t.held.length c) (.slice b t.wait.length d)), .ob B102 29 grr] w309) := HS309.out.pull [0, 1, 2, 3, 4, 5] rfl (pull_nd HS309.out.nd [0, 1, 2, 3, 4, 5] rfl (by decide))
     clear HS309
     go_wp2_with fail
     go_roundw
     case rel => exact ⟨k + 1, by go_num, HLk.out, HS310.out⟩
     case measure => simp [intOf]; try (have := HLk.out; omega)
    ·obtain rfl : k = 3 := by omega
     clear hlt hk
     go_wp2_with fail
     refine (next_any C 5 _ ((HY.out).codes 0 rfl) (by omega)).mono ?_
     rintro e w501 ⟨n5, rfl, n5a, n5b, hb, hc⟩
     have HS501 : Hid (Hp w [.cd C, .ob b6 29 (grCells g), .ob B22 25 arr, .rd R, .ob B101 25 (tbCells (.slice a t.held.length c) (.slice b t.wait.length d)), .ob B102 29 grr] w501) := (HY.out).draws 0 rfl hb hc
     clear hb hc
     clear HY
     have w5 : IntKind.i64.wrap (1 + n5) = 1 + n5 := IntWalk.i64_in _ (by omega)
     have w6 : wrap64 (1 + n5) = 1 + n5 := IntWalk.wrap64_in _ (by omega)
     clear n5a n5b
     go_wp2_with (first | ((with_reducible refine wpList_build_vals 46 2 elem_i HUI.out [.int .i64 tx, .int .i64 (1 + n5)] ?_ ?_ ?_ ?_ ?_ ?_); (exact (by intro v hv; simp only [List.mem_cons, List.not_mem_nil, or_false] at hv; rcases hv with rfl | rfl <;> rfl)); (exact Nat.succ_pos _); (simp only [List.length_cons, List.length_nil]; omega); (exact rfl); (simp only [List.map_toArray, List.map_cons, List.map_nil, List.zipIdx_cons, List.zipIdx_nil]; exact rfl); simp only [Act.put, List.setIfInBounds_toArray, List.set_cons_zero, List.set_cons_succ]))
     have HS502 : Hid (Hp w [.cd C, .ob b6 29 (grCells g), .ob B22 25 arr, .rd R, .ob B101 25 (tbCells (.slice a t.held.length c) (.slice b t.wait.length d)), .ob B102 29 grr, .ob (w501.heap.size) 3 ([.int .i64 tx, .int .i64 (1 + n5)])] (w501.alloc (.cells ([.int .i64 tx, .int .i64 (1 + n5)]).toArray 3))) := (HS501.out).put 3 ([.int .i64 tx, .int .i64 (1 + n5)])
     clear HS501
     generalize (w501.alloc (.cells ([.int .i64 tx, .int .i64 (1 + n5)]).toArray 3)) = w502 at *
     generalize w501.heap.size = B501 at *
     have HS503 : Hid (Hp w [.cd C, .ob b6 29 (grCells g), .ob B22 25 arr, .rd R, .ob B101 25 (tbCells (.slice a t.held.length c) (.slice b t.wait.length d)), .ob B501 3 ([.int .i64 tx, .int .i64 (1 + n5)])] w502) := HS502.out.pull [0, 1, 2, 3, 4, 6] rfl (pull_nd HS502.out.nd [0, 1, 2, 3, 4, 6] rfl (by decide))
     clear HS502
     go_loopw [156] (fun iv wr => ∃ k : Nat, iv = .int .i64 k ∧ k ≤ 2 ∧ Hp w [.cd C, .ob b6 29 (grCells g), .ob B22 25 arr, .rd R, .ob B101 25 (tbCells (.slice a t.held.length c) (.slice b t.wait.length d)), .ob B501 3 [.int .i64 tx, .int .i64 (1 + n5)]] wr) (fun iv _ => 2 - (intOf iv).toNat)
     case atStart => exact ⟨0, rfl, by omega, HS503.out⟩
     case round =>
      clear HS503
      obtain ⟨k, rfl, hk, hs⟩ := hrel
      have HY := Lib.hid hs
      clear hs
      by_cases hlt : k < 2
      ·obtain ⟨y, hcy⟩ : ∃ y : Int, ([.int .i64 tx, .int .i64 (1 + n5)] : List Value)[k]? = some (.int .i64 y) := by
        rcases (show k = 0 ∨ k = 1 by omega) with rfl | rfl
        ·exact ⟨_, rfl⟩
        ·exact ⟨_, rfl⟩
       have ck : wr.cell? ⟨B501, k, none⟩ = some (.int .i64 y) := HY.out.at 5 rfl k hcy
       have HLk := Lib.hid hlt
       have hkk : (k : Int) < 2 := by omega
       have hk0 : (0 : Int) ≤ (k : Int) := by omega
       clear hcy hk hlt
       obtain ⟨wx, wb, hwx⟩ : ∃ wx wb, waitR t y = (wx, wb) := ⟨_, _, rfl⟩
       have HWp : Hid (∀ W, RdIn W R → Calls Try.prog 24 #[.agg (tbCells (.slice a t.held.length c) (.slice b t.wait.length d)).toArray, .int .i64 y] W fun e w' => e = .returned (.tuple #[.agg (grCells wx).toArray, .bool wb]) ∧ Below W.heap.size W w') := Lib.hid (fun W h => by have := pWaiting_any y W HRd.out h HGt.out; rwa [hwx] at this)
       have HWr : Hid (∀ W, RdIn W R → Calls Try.prog 25 #[.agg (tbCells (.slice a t.held.length c) (.slice b t.wait.length d)).toArray, .int .i64 y] W fun e w' => e = .returned (.tuple #[.agg (grCells wx).toArray, .bool wb]) ∧ Below W.heap.size W w') := Lib.hid (fun W h => by have := rWaiting_any y W HRd.out h HGt.out; rwa [hwx] at this)
       have hgw : GoodGr wx := by have := waitR_good HGt.out y; rwa [hwx] at this
       have hne2 := fun W => neq_gr hgw W
       have hne := fun W => neq_gr hgw W
       simp only [grCells] at hne
       have HGc := Lib.hid (cancel_good HGt.out y)
       have HGl := Lib.hid (release_good HGt.out y)
       clear hwx hgw
       go_upto_region 21 with (fail)
       clear ck
       go_wp2_with (first | ((with_reducible refine wpList_load_ob 25 (.tmp 12) B101 (tbCells (.slice a t.held.length c) (.slice b t.wait.length d)) 25 HUT.out ?_ ?_ ?_ ?_ ?_); (exact rfl); (exact (HY.out).get 4 rfl); (exact rfl); (exact info_tb); simp only [Act.put, List.setIfInBounds_toArray, List.set_cons_zero, List.set_cons_succ]))
       refine (HWp.out _ ((HY.out).reads 3 rfl)).mono ?_
       rintro e w701 ⟨rfl, hb⟩
       have HS701 : Hid (Hp w [.cd C, .ob b6 29 (grCells g), .ob B22 25 arr, .rd R, .ob B101 25 (tbCells (.slice a t.held.length c) (.slice b t.wait.length d)), .ob B501 3 [.int .i64 tx, .int .i64 (1 + n5)]] w701) := (HY.out).calls hb
       clear hb
       clear HY
       go_wp2_with (first | ((with_reducible refine wpList_alloc_ob 29 (grCells grNil) ?_ ?_); (exact alloc_gr); simp only [Act.put, List.setIfInBounds_toArray, List.set_cons_zero, List.set_cons_succ]) | ((with_reducible refine wpList_store_ob 29 (.tmp 23) (w701.heap.size) (grCells wx) (grCells grNil) 29 ?_ ?_ ?_ ?_ ?_ ?_ ?_); (exact rfl); (exact rfl); (exact ((HS701.out).put 29 (grCells grNil)).get 6 rfl); (exact info_gr); (exact rfl); (exact (oneCell_gr _)); skip) | ((with_reducible refine wpList_load_ob 25 (.tmp 12) B101 (tbCells (.slice a t.held.length c) (.slice b t.wait.length d)) 25 HUT.out ?_ ?_ ?_ ?_ ?_); (exact rfl); (exact (((HS701.out).put 29 (grCells grNil)).row 6 rfl (grCells wx)).get 4 rfl); (exact rfl); (exact info_tb); simp only [Act.put, List.setIfInBounds_toArray, List.set_cons_zero, List.set_cons_succ]))
       refine (HWr.out _ ((((HS701.out).put 29 (grCells grNil)).row 6 rfl (grCells wx)).reads 3 rfl)).mono ?_
       rintro e w702 ⟨rfl, hb⟩
       have HS702 : Hid (Hp w [.cd C, .ob b6 29 (grCells g), .ob B22 25 arr, .rd R, .ob B101 25 (tbCells (.slice a t.held.length c) (.slice b t.wait.length d)), .ob B501 3 [.int .i64 tx, .int .i64 (1 + n5)], .ob (w701.heap.size) 29 (grCells wx)] w702) := (((HS701.out).put 29 (grCells grNil)).row 6 rfl (grCells wx)).calls hb
       clear hb
       clear HS701
       generalize w701.heap.size = B701 at *
       go_upto_region 23 with (first | ((with_reducible refine wpList_alloc_ob 29 (grCells grNil) ?_ ?_); (exact alloc_gr); simp only [Act.put, List.setIfInBounds_toArray, List.set_cons_zero, List.set_cons_succ]) | ((with_reducible refine wpList_store_ob 29 (.tmp 25) (w702.heap.size) (grCells wx) (grCells grNil) 29 ?_ ?_ ?_ ?_ ?_ ?_ ?_); (exact rfl); (exact rfl); (exact ((HS702.out).put 29 (grCells grNil)).get 7 rfl); (exact info_gr); (exact rfl); (exact (oneCell_gr _)); skip))
       have HS703 : Hid (Hp w [.cd C, .ob b6 29 (grCells g), .ob B22 25 arr, .rd R, .ob B101 25 (tbCells (.slice a t.held.length c) (.slice b t.wait.length d)), .ob B501 3 [.int .i64 tx, .int .i64 (1 + n5)], .ob B701 29 (grCells wx), .ob (w702.heap.size) 29 (grCells wx)] ((w702.alloc (.cells (grCells grNil).toArray 29)).setRow (w702.heap.size) (grCells wx).toArray)) := ((HS702.out).put 29 (grCells grNil)).row 7 rfl (grCells wx)
       clear HS702
       generalize ((w702.alloc (.cells (grCells grNil).toArray 29)).setRow (w702.heap.size) (grCells wx).toArray) = w703 at *
       generalize w702.heap.size = B702 at *
       refine wp_region_held_drew (S := fun w' => w'.rangeAt B101 0 (tbCells (.slice a t.held.length c) (.slice b t.wait.length d)) ∧ w'.rangeAt B701 0 (grCells wx) ∧ w'.rangeAt B702 0 (grCells wx)) (by kernel_rfl) (⟨(fun j v hv => by rw [Nat.zero_add]; exact ((HS703.out).drew).at 4 rfl j hv), (fun j v hv => by rw [Nat.zero_add]; exact ((HS703.out).drew).at 6 rfl j hv), (fun j v hv => by rw [Nat.zero_add]; exact ((HS703.out).drew).at 7 rfl j hv)⟩) (fun hHeld => ?_)
       refine tk 0 qLwEx8_74 (some 172) (yieldsIf_load_mid (by rfl) 29 (.tmp 23) rfl B701 (0) rfl (grCells wx) _ (fun _ h => h.2.1) HUG.out rfl (info_gr)) hHeld ?_
       try simp only [z0, z1, z2, z3]
       refine tk 1 qLwEx8_75 (some 173) (yieldsIf_load_mid (by rfl) 29 (.tmp 25) rfl B702 (0) rfl (grCells wx) _ (fun _ h => h.2.2) HUG.out rfl (info_gr)) hHeld ?_
       try simp only [z0, z1, z2, z3]
       refine tk 2 qLwEx8_76 (some 174) (v := .bool false) (Or.inl ⟨by rfl, ?q2003h⟩) hHeld ?q2003r
       case q2003h => (intro wq hSw; clear hSw; go_simp; try with_reducible rfl)
       try simp only [z0, z1, z2, z3]
       refine tk 3 qLwEx8_77 (some 175) (v := ?q2004v) (Or.inl ⟨by rfl, ?q2004h⟩) hHeld ?q2004r
       case q2004h => (intro wq hSw; clear hSw; go_simp; try with_reducible rfl)
       try simp only [z0, z1, z2, z3]
       refine tk 4 qLwEx8_78 (some 176) (v := ?q2005v) (Or.inl ⟨by rfl, ?q2005h⟩) hHeld ?q2005r
       case q2005h => (intro wq hSw; clear hSw; go_simp; try with_reducible rfl)
       try simp only [z0, z1, z2, z3]
       refine tk 5 qLwEx8_79 (some 177) (v := ?q2006v) (Or.inl ⟨by rfl, ?q2006h⟩) hHeld ?q2006r
       case q2006h => (intro wq hSw; clear hSw; go_simp; try with_reducible rfl)
       try simp only [z0, z1, z2, z3]
       refine tk 6 qLwEx8_80 (some 178) (v := .bool false) (Or.inl ⟨by rfl, ?q2007h⟩) hHeld ?q2007r
       case q2007h => (intro wq hSw; clear hSw; go_simp; try with_reducible rfl)
       try simp only [z0, z1, z2, z3]
       refine tk 7 qLwEx8_81 (some 179) (v := ?q2008v) (Or.inl ⟨by rfl, ?q2008h⟩) hHeld ?q2008r
       case q2008h => (intro wq hSw; clear hSw; go_simp; try with_reducible rfl)
       try simp only [z0, z1, z2, z3]
       refine tk 8 qLwEx8_82 (some 180) (v := ?q2009v) (Or.inl ⟨by rfl, ?q2009h⟩) hHeld ?q2009r
       case q2009h => (intro wq hSw; clear hSw; go_simp; try with_reducible rfl)
       try simp only [z0, z1, z2, z3]
       refine tk 9 qLwEx8_83 (some 181) (yieldsIf_load_mid (by rfl) 25 (.tmp 12) rfl B101 (0) rfl (tbCells (.slice a t.held.length c) (.slice b t.wait.length d)) _ (fun _ h => h.1) HUT.out rfl (info_tb)) hHeld ?_
       try simp only [z0, z1, z2, z3]
       refine tk 10 qLwEx8_84 (some 182) (v := ?q2011v) (Or.inl ⟨by rfl, ?q2011h⟩) hHeld ?q2011r
       case q2011h => (intro wq hSw; clear hSw; go_simp; try with_reducible rfl)
       try simp only [z0, z1, z2, z3]
       refine tk 12 qLwEx8_85 (some 184) (yieldsIf_load_mid (by rfl) 25 (.tmp 12) rfl B101 (0) rfl (tbCells (.slice a t.held.length c) (.slice b t.wait.length d)) _ (fun _ h => h.1) HUT.out rfl (info_tb)) hHeld ?_
       try simp only [z0, z1, z2, z3]
       refine tk 13 qLwEx8_86 (some 185) (v := ?q2013v) (Or.inl ⟨by rfl, ?q2013h⟩) hHeld ?q2013r
       case q2013h => (intro wq hSw; clear hSw; go_simp; try with_reducible rfl)
       try simp only [z0, z1, z2, z3]
       refine tn 11 qLwEx8_87 (fun K hK => ?_)
       go_simp
       go_wp2_with (go_at_call 26; refine (pcancel_any y _ HRd.out (((HS703.out).drew).reads 3 rfl) HGt.out).mono ?_; rintro e w704 ⟨h9, v9, Rp, rfl, hrd2, hin2, hnew2, hb⟩)
       obtain ⟨ap, cp, rfl, _, _⟩ := hrd2.1.shape
       obtain ⟨bp, dp, rfl, _, _⟩ := hrd2.2.shape
       have Hrdp := Lib.hid hrd2
       have HS704 : Hid (Hp w [.cd C, .ob b6 29 (grCells g), .ob B22 25 arr, .rd R, .ob B101 25 (tbCells (.slice a t.held.length c) (.slice b t.wait.length d)), .ob B501 3 [.int .i64 tx, .int .i64 (1 + n5)], .ob B701 29 (grCells wx), .ob B702 29 (grCells wx), .rd Rp] w704) := ((HS703.out).drew).addrd hb Rp hin2 (fun r hr => (hnew2 r hr).elim .inl (fun h => .inr ⟨.rd R, List.mem_of_getElem? (i := 3) rfl, h⟩))
       refine hK.out _ _ (⟨(fun j v hv => by rw [Nat.zero_add]; exact (HS704.out).at 4 rfl j hv), (fun j v hv => by rw [Nat.zero_add]; exact (HS704.out).at 6 rfl j hv), (fun j v hv => by rw [Nat.zero_add]; exact (HS704.out).at 7 rfl j hv)⟩) (fun hHeld => ?_)
       clear hK K hb hin2 hrd2 hnew2
       try simp only [z0, z1, z2, z3]
       refine tn 14 qLwEx8_88 (fun K hK => ?_)
       go_simp
       go_wp2_with (go_at_call 27; refine (rcancel_any y _ HRd.out ((HS704.out).reads 3 rfl) HGt.out).mono ?_; rintro e w705 ⟨h9, v9, Rq, rfl, hrd2, hin2, hnew2, hb⟩)
       obtain ⟨aq, cq, rfl, _, _⟩ := hrd2.1.shape
       obtain ⟨bq, dq, rfl, _, _⟩ := hrd2.2.shape
       have Hrdq := Lib.hid hrd2
       have HS705 : Hid (Hp w [.cd C, .ob b6 29 (grCells g), .ob B22 25 arr, .rd R, .ob B101 25 (tbCells (.slice a t.held.length c) (.slice b t.wait.length d)), .ob B501 3 [.int .i64 tx, .int .i64 (1 + n5)], .ob B701 29 (grCells wx), .ob B702 29 (grCells wx), .rd Rp, .rd Rq] w705) := (HS704.out).addrd hb Rq hin2 (fun r hr => (hnew2 r hr).elim .inl (fun h => .inr ⟨.rd R, List.mem_of_getElem? (i := 3) rfl, h⟩))
       refine hK.out _ _ (⟨(fun j v hv => by rw [Nat.zero_add]; exact (HS705.out).at 4 rfl j hv), (fun j v hv => by rw [Nat.zero_add]; exact (HS705.out).at 6 rfl j hv), (fun j v hv => by rw [Nat.zero_add]; exact (HS705.out).at 7 rfl j hv)⟩) (fun hHeld => ?_)
       clear hK K hb hin2 hrd2 hnew2
       try simp only [z0, z1, z2, z3]
       refine tn 15 qLwEx8_89 (fun K hK => ?_)
       go_simp
       go_wp2_with (go_at_call 19; refine (rSame_tb _ Hrdp.out ((HS705.out).reads 8 rfl) Hrdq.out ((HS705.out).reads 9 rfl) HGc.out).mono ?_; rintro e w706 ⟨rfl, hb⟩)
       have HS706 := Lib.hid ((HS705.out).calls hb)
       refine hK.out _ _ (⟨(fun j v hv => by rw [Nat.zero_add]; exact (HS706.out).at 4 rfl j hv), (fun j v hv => by rw [Nat.zero_add]; exact (HS706.out).at 6 rfl j hv), (fun j v hv => by rw [Nat.zero_add]; exact (HS706.out).at 7 rfl j hv)⟩) (fun hHeld => ?_)
       clear hK K hb
       try simp only [z0, z1, z2, z3]
       refine tk 16 qLwEx8_90 (some 188) (v := ?q2014v) (Or.inl ⟨by rfl, ?q2014h⟩) hHeld ?q2014r
       case q2014h => (intro wq hSw; clear hSw; go_simp; try with_reducible rfl)
       try simp only [z0, z1, z2, z3]
       refine tk 17 qLwEx8_91 (some 189) (v := ?q2015v) (Or.inl ⟨by rfl, ?q2015h⟩) hHeld ?q2015r
       case q2015h => (intro wq hSw; clear hSw; go_simp; try with_reducible rfl)
       try simp only [z0, z1, z2, z3]
       refine tk 18 qLwEx8_92 (some 190) (v := ?q2016v) (Or.inl ⟨by rfl, ?q2016h⟩) hHeld ?q2016r
       case q2016h => (intro wq hSw; clear hSw; go_simp; try with_reducible rfl)
       try simp only [z0, z1, z2, z3]
       refine tk 19 qLwEx8_93 (some 191) (yieldsIf_load_mid (by rfl) 25 (.tmp 12) rfl B101 (0) rfl (tbCells (.slice a t.held.length c) (.slice b t.wait.length d)) _ (fun _ h => h.1) HUT.out rfl (info_tb)) hHeld ?_
       try simp only [z0, z1, z2, z3]
       refine tk 20 qLwEx8_94 (some 192) (v := ?q2018v) (Or.inl ⟨by rfl, ?q2018h⟩) hHeld ?q2018r
       case q2018h => (intro wq hSw; clear hSw; go_simp; try with_reducible rfl)
       try simp only [z0, z1, z2, z3]
       refine tk 22 qLwEx8_95 (some 194) (yieldsIf_load_mid (by rfl) 25 (.tmp 12) rfl B101 (0) rfl (tbCells (.slice a t.held.length c) (.slice b t.wait.length d)) _ (fun _ h => h.1) HUT.out rfl (info_tb)) hHeld ?_
       try simp only [z0, z1, z2, z3]
       refine tk 23 qLwEx8_96 (some 195) (v := ?q2020v) (Or.inl ⟨by rfl, ?q2020h⟩) hHeld ?q2020r
       case q2020h => (intro wq hSw; clear hSw; go_simp; try with_reducible rfl)
       try simp only [z0, z1, z2, z3]
       refine tn 21 qLwEx8_97 (fun K hK => ?_)
       go_simp
       go_wp2_with (go_at_call 28; refine (prelease_any y _ HRd.out ((HS706.out).reads 3 rfl) HGt.out).mono ?_; rintro e w707 ⟨h9, v9, Rx, rfl, hrd2, hin2, hnew2, hb⟩)
       obtain ⟨ax, cx, rfl, _, _⟩ := hrd2.1.shape
       obtain ⟨bx, dx, rfl, _, _⟩ := hrd2.2.shape
       have Hrdx := Lib.hid hrd2
       have HS707 : Hid (Hp w [.cd C, .ob b6 29 (grCells g), .ob B22 25 arr, .rd R, .ob B101 25 (tbCells (.slice a t.held.length c) (.slice b t.wait.length d)), .ob B501 3 [.int .i64 tx, .int .i64 (1 + n5)], .ob B701 29 (grCells wx), .ob B702 29 (grCells wx), .rd Rp, .rd Rq, .rd Rx] w707) := (HS706.out).addrd hb Rx hin2 (fun r hr => (hnew2 r hr).elim .inl (fun h => .inr ⟨.rd R, List.mem_of_getElem? (i := 3) rfl, h⟩))
       refine hK.out _ _ (⟨(fun j v hv => by rw [Nat.zero_add]; exact (HS707.out).at 4 rfl j hv), (fun j v hv => by rw [Nat.zero_add]; exact (HS707.out).at 6 rfl j hv), (fun j v hv => by rw [Nat.zero_add]; exact (HS707.out).at 7 rfl j hv)⟩) (fun hHeld => ?_)
       clear hK K hb hin2 hrd2 hnew2
       try simp only [z0, z1, z2, z3]
       refine tn 24 qLwEx8_98 (fun K hK => ?_)
       go_simp
       go_wp2_with (go_at_call 29; refine (rrelease_any y _ HRd.out ((HS707.out).reads 3 rfl) HGt.out).mono ?_; rintro e w708 ⟨h9, v9, Rz, rfl, hrd2, hin2, hnew2, hb⟩)
       obtain ⟨az, cz, rfl, _, _⟩ := hrd2.1.shape
       obtain ⟨bz, dz, rfl, _, _⟩ := hrd2.2.shape
       have Hrdz := Lib.hid hrd2
       have HS708 : Hid (Hp w [.cd C, .ob b6 29 (grCells g), .ob B22 25 arr, .rd R, .ob B101 25 (tbCells (.slice a t.held.length c) (.slice b t.wait.length d)), .ob B501 3 [.int .i64 tx, .int .i64 (1 + n5)], .ob B701 29 (grCells wx), .ob B702 29 (grCells wx), .rd Rp, .rd Rq, .rd Rx, .rd Rz] w708) := (HS707.out).addrd hb Rz hin2 (fun r hr => (hnew2 r hr).elim .inl (fun h => .inr ⟨.rd R, List.mem_of_getElem? (i := 3) rfl, h⟩))
       refine hK.out _ _ (⟨(fun j v hv => by rw [Nat.zero_add]; exact (HS708.out).at 4 rfl j hv), (fun j v hv => by rw [Nat.zero_add]; exact (HS708.out).at 6 rfl j hv), (fun j v hv => by rw [Nat.zero_add]; exact (HS708.out).at 7 rfl j hv)⟩) (fun hHeld => ?_)
       clear hK K hb hin2 hrd2 hnew2
       try simp only [z0, z1, z2, z3]
       refine tn 25 qLwEx8_99 (fun K hK => ?_)
       go_simp
       go_wp2_with (go_at_call 19; refine (rSame_tb _ Hrdx.out ((HS708.out).reads 10 rfl) Hrdz.out ((HS708.out).reads 11 rfl) HGl.out).mono ?_; rintro e w709 ⟨rfl, hb⟩)
       have HS709 := Lib.hid ((HS708.out).calls hb)
       refine hK.out _ _ (⟨(fun j v hv => by rw [Nat.zero_add]; exact (HS709.out).at 4 rfl j hv), (fun j v hv => by rw [Nat.zero_add]; exact (HS709.out).at 6 rfl j hv), (fun j v hv => by rw [Nat.zero_add]; exact (HS709.out).at 7 rfl j hv)⟩) (fun hHeld => ?_)
       clear hK K hb
       try simp only [z0, z1, z2, z3]
       refine tk 26 qLwEx8_100 (some 198) (v := ?q2021v) (Or.inl ⟨by rfl, ?q2021h⟩) hHeld ?q2021r
       case q2021h => (intro wq hSw; clear hSw; go_simp; try with_reducible rfl)
       try simp only [z0, z1, z2, z3]
       refine tk 27 qLwEx8_101 (some 199) (v := ?q2022v) (Or.inl ⟨by rfl, ?q2022h⟩) hHeld ?q2022r
       case q2022h => (intro wq hSw; clear hSw; go_simp; try with_reducible rfl)
       try simp only [z0, z1, z2, z3]
       refine wpAnyH_done (by kernel_rfl) ?_ _
       clear hHeld
       have HS710 : Hid (Hp w [.cd C, .ob b6 29 (grCells g), .ob B22 25 arr, .rd R, .ob B101 25 (tbCells (.slice a t.held.length c) (.slice b t.wait.length d)), .ob B501 3 [.int .i64 tx, .int .i64 (1 + n5)]] w709) := HS709.out.pull [0, 1, 2, 3, 4, 5] rfl (pull_nd HS709.out.nd [0, 1, 2, 3, 4, 5] rfl (by decide))
       clear HS709
       go_wp2_with fail
       go_roundw
       case rel => exact ⟨k + 1, by go_num, HLk.out, HS710.out⟩
       case measure => simp [intOf]; try (have := HLk.out; omega)
      ·obtain rfl : k = 2 := by omega
       clear hlt hk
       have hz := HY.out.pull [0, 1, 2, 3] (M := [.cd C, .ob b6 29 (grCells g), .ob B22 25 arr, .rd R]) rfl (pull_nd HY.out.nd [0, 1, 2, 3] rfl (by decide))
       have HZ := Lib.hid hz
       clear hz HY
       go_wp2_with fail
       go_roundw
       case rel => exact ⟨i + 1, by go_num, HLt.out, HZ.out⟩
       case measure => simp [intOf]; try (have := HLt.out; omega)
  ·obtain rfl : i = 3 := by omega
   clear hlt hi
   go_wp2_with fail
   go_ret
   exact ⟨rfl, HY.out.old⟩
end Go.Proofs.Ytcnaalbpbalgdaa
/- a slice that came in, opened: its elements are values of a kind, and its cells read -/
namespace Go.Proofs.Ytcnaalbpbalgdaa
open Go.RowKit
set_option maxRecDepth 20000

theorem flat_len {X : Type} (f : X → List Value) (z : Nat) (hf : ∀ x, (f x).length = z) (l : List X) : (l.flatMap f).length = l.length * z := by
  induction l with
  | nil => simp
  | cons x l ih => rw [List.flatMap_cons, List.length_append, hf, ih, List.length_cons, Nat.add_mul]; omega
theorem flat_at {X : Type} (f : X → List Value) (z : Nat) (hf : ∀ x, (f x).length = z) : ∀ (l : List X) (q : Nat) (u : Value), (l.flatMap f)[q]? = some u → q / z < l.length ∧ ∃ x, l[q / z]? = some x ∧ (f x)[q % z]? = some u
  | [], q, u, h => by simp at h
  | x :: l, q, u, h => by
    rw [List.flatMap_cons] at h
    by_cases hq : q < z
    · rw [List.getElem?_append_left (by rw [hf]; exact hq)] at h
      rw [Nat.div_eq_of_lt hq, Nat.mod_eq_of_lt hq]
      exact ⟨Nat.succ_pos _, x, rfl, h⟩
    · have hz : 0 < z := by
        rcases Nat.eq_zero_or_pos z with h0 | h0
        · subst h0
          rw [List.getElem?_append_right (by rw [hf]; omega), hf] at h
          have : (l.flatMap f).length = 0 := by rw [flat_len f 0 hf, Nat.mul_zero]
          rw [List.eq_nil_of_length_eq_zero this] at h
          simp at h
        · exact h0
      rw [List.getElem?_append_right (by rw [hf]; omega), hf] at h
      obtain ⟨h1, y, h2, h3⟩ := flat_at f z hf l (q - z) u h
      have e1 : q / z = (q - z) / z + 1 := by rw [Nat.div_eq_sub_div hz (by omega)]
      have e2 : q % z = (q - z) % z := by rw [Nat.mod_eq_sub_mod (by omega)]
      rw [e1, e2]
      exact ⟨by simp only [List.length_cons]; omega, y, by simpa using h2, h3⟩
section
variable {H : Type} {enc : TypeId × Value → H} {W : World} {base : Nat} {held : Bool}
theorem open_sl {X : Type} [Inhabited X] (f : X → List Value) (Good : X → Prop) {t e : TypeId} (z : Nat) (hz : 0 < z) (ht : Try.prog.underlying t = some (.slice e)) (hc : Try.prog.cellsOf e = z) (hf : ∀ x, (f x).length = z)
    (hel : ∀ n cs y, DataW.trod enc Try.prog W base (fun _ => true) held n e cs = some y → cs.length = z → ∃ x, cs = f x ∧ Good x)
    {n : Nat} {v : Value} {y : DataW H × List MemPlace} (h : DataW.trod enc Try.prog W base (fun _ => true) held n t [v] = some y) :
    ∃ (l : List X) (R : List Rng), SlRd v z l.length (l.flatMap f) R ∧ RdIn W R ∧ ∀ x ∈ l, Good x := by
  rcases Go.Deep.open_slice ht h with ⟨hcs, _⟩ | ⟨a, len, cap, m, n', D, Pl, hcs, hb, hl, hm, hmm, _, hx⟩
  · obtain rfl : v = .slice none 0 0 := by simpa using hcs
    exact ⟨[], [], SlRd.nil z [], RdIn.nil W, fun x hx => by cases hx⟩
  · obtain rfl : v = .slice (some a) len cap := by simpa using hcs
    have hm2 : m = cap := by rw [hmm]; rfl
    subst hm2
    clear hmm
    rw [hc] at hx
    obtain ⟨g, hg⟩ := Go.Deep.choose_lt (n := m) (p := fun i (x : X) => W.cells? base (a.add (i * z)) z = some (f x) ∧ Good x) (fun i hi => by
      obtain ⟨cs', h1, h2⟩ := hx i hi
      obtain ⟨_, hlen, _⟩ := World.cells?_some h1
      obtain ⟨x, rfl, hgx⟩ := hel _ _ _ h2 hlen
      exact ⟨x, h1, hgx⟩)
    have hlen : ((List.range len).map g).length = len := by simp
    have hcell : ∀ i, i < len → ∀ r u, (f (g i))[r]? = some u → W.cell? ((a.add (i * z)).add r) = some u := fun i hi r u hu => by
      obtain ⟨_, hl2, hc2⟩ := World.cells?_some (hg i (by omega)).1
      have hr : r < z := by rw [← hl2]; exact (List.getElem?_eq_some_iff.1 hu).1
      rw [hc2 r hr]; exact hu
    rcases Nat.eq_zero_or_pos len with h0 | h0
    · subst h0
      refine ⟨[], [], ⟨some a, m, rfl, by simp, hl, hm, fun h => absurd h (Nat.lt_irrefl 0), fun h => by cases h⟩, RdIn.nil W, fun x hx => by cases hx⟩
    · have hspot : a.spot = none := by
        have hlt : 0 < (f (g 0)).length := by rw [hf]; exact hz
        have := hcell 0 h0 0 _ (List.getElem?_eq_getElem hlt)
        rw [Nat.zero_mul, show (a.add 0) = a from rfl, show (a.add 0) = a from rfl] at this
        exact World.cell?_spot this
      obtain ⟨gb, off, sp⟩ := a
      obtain rfl : sp = none := hspot
      have hrange : W.rangeAt gb off (((List.range len).map g).flatMap f) := fun j u hu => by
        obtain ⟨h1, x, h2, h3⟩ := flat_at f z hf _ _ _ hu
        rw [hlen] at h1
        rw [List.getElem?_map, List.getElem?_range h1] at h2
        obtain rfl : g (j / z) = x := by simpa using h2
        have := hcell _ h1 _ _ h3
        rw [Addr.add_mid, Addr.add_mid, Nat.add_assoc, show j / z * z + j % z = j by rw [Nat.mul_comm]; exact Nat.div_add_mod j z] at this
        exact this
      refine ⟨(List.range len).map g, [(gb, off, ((List.range len).map g).flatMap f)], ⟨some ⟨gb, off, none⟩, m, by rw [hlen], by rw [flat_len f z hf], by rw [hlen]; exact hl, hm, fun _ => ⟨gb, off, rfl, List.mem_singleton.2 rfl⟩, fun h => by cases h⟩, fun r hr => ?_, fun x hx => ?_⟩
      · obtain rfl := List.mem_singleton.1 hr
        refine ⟨?_, hrange⟩
        have hlt : 0 < (f (g 0)).length := by rw [hf]; exact hz
        have hc0 := hcell 0 h0 0 _ (List.getElem?_eq_getElem hlt)
        rw [Nat.zero_mul] at hc0
        unfold World.cell? at hc0
        split at hc0
        · next hh => exact (Array.getElem?_eq_some_iff.1 hh).1
        · cases hc0
      · obtain ⟨i, hi, rfl⟩ := List.mem_map.1 hx
        exact (hg i (by have := List.mem_range.1 hi; omega)).2
end
end Go.Proofs.Ytcnaalbpbalgdaa
/- a table of locks and a grant that came in by value, opened -/
namespace Go.Proofs.Ytcnaalbpbalgdaa
open Go.RowKit
set_option maxRecDepth 20000

section
variable {H : Type} {enc : TypeId × Value → H} {W : World} {base : Nat} {held : Bool}
instance : Inhabited Gr := ⟨grNil⟩
theorem four_of {cs : List Value} (h : cs.length = 4) : ∃ a b c d, cs = [a, b, c, d] := by
  match cs, h with
  | [a, b, c, d], _ => exact ⟨a, b, c, d, rfl⟩
theorem two_of {cs : List Value} (h : cs.length = 2) : ∃ a b, cs = [a, b] := by
  match cs, h with
  | [a, b], _ => exact ⟨a, b, rfl⟩
theorem two_arr {cs : Array Value} (h : cs.size = 2) : ∃ a b, cs = #[a, b] := by
  obtain ⟨l⟩ := cs
  match l, h with
  | [a, b], _ => exact ⟨a, b, rfl⟩
theorem cellsOf_int1 : Try.prog.cellsOf 3 = 1 := by kernel_rfl
theorem cellsOf_slg : Try.prog.cellsOf 23 = 1 := by kernel_rfl
theorem cellsOf_tb2 : Try.prog.cellsOf 25 = 2 := by kernel_rfl
theorem tb_range {xs : List (DataW H × List MemPlace)} {k m : Nat} (h : xs.length = m) (hk : k < m) : ∃ x, xs[k]? = some x := ⟨_, List.getElem?_eq_getElem (by omega)⟩
theorem el_lk (n : Nat) (cs : List Value) (y : DataW H × List MemPlace) (h : DataW.trod enc Try.prog W base (fun _ => true) held n 27 cs = some y) (hl : cs.length = 2) : ∃ x : Lok, cs = lkCells x ∧ GoodLk x := by
  obtain ⟨a, b, rfl⟩ := two_of hl
  obtain ⟨xs, n, _, _, _, hn, hf⟩ := DataW.trod_struct Try.underlying27 h
  obtain ⟨x0, e0⟩ := tb_range hn (k := 0) (by decide)
  obtain ⟨x1, e1⟩ := tb_range hn (k := 1) (by decide)
  have h0 : DataW.trod enc Try.prog W base (fun _ => true) held n 3 ((([a, b] : List Value).drop 0).take (Try.prog.cellsOf 3)) = some x0 := (hf 0 _ rfl).trans e0
  have h1 : DataW.trod enc Try.prog W base (fun _ => true) held n 3 ((([a, b] : List Value).drop 1).take (Try.prog.cellsOf 3)) = some x1 := (hf 1 _ rfl).trans e1
  simp only [cellsOf_int1, List.drop_zero, List.drop_succ_cons, List.take_succ_cons, List.take_zero] at h0 h1
  obtain ⟨k0, q0, _, g0⟩ := DataW.trod_int Try.underlying3 h0
  obtain ⟨k1, q1, _, g1⟩ := DataW.trod_int Try.underlying3 h1
  obtain rfl : a = .int .i64 k0 := by simpa using q0
  obtain rfl : b = .int .i64 k1 := by simpa using q1
  exact ⟨⟨k0, k1⟩, rfl, g0, g1⟩
theorem el_gr (n : Nat) (cs : List Value) (y : DataW H × List MemPlace) (h : DataW.trod enc Try.prog W base (fun _ => true) held n 29 cs = some y) (hl : cs.length = 4) : ∃ x : Gr, cs = grCells x ∧ GoodGr x := by
  obtain ⟨a, b, c, d, rfl⟩ := four_of hl
  obtain ⟨xs, n, _, _, _, hn, hf⟩ := DataW.trod_struct Try.underlying29 h
  obtain ⟨x0, e0⟩ := tb_range hn (k := 0) (by decide)
  obtain ⟨x1, e1⟩ := tb_range hn (k := 1) (by decide)
  obtain ⟨x2, e2⟩ := tb_range hn (k := 2) (by decide)
  have h0 : DataW.trod enc Try.prog W base (fun _ => true) held n 3 ((([a, b, c, d] : List Value).drop 0).take (Try.prog.cellsOf 3)) = some x0 := (hf 0 _ rfl).trans e0
  have h1 : DataW.trod enc Try.prog W base (fun _ => true) held n 27 ((([a, b, c, d] : List Value).drop 1).take (Try.prog.cellsOf 27)) = some x1 := (hf 1 _ rfl).trans e1
  have h2 : DataW.trod enc Try.prog W base (fun _ => true) held n 3 ((([a, b, c, d] : List Value).drop 3).take (Try.prog.cellsOf 3)) = some x2 := (hf 2 _ rfl).trans e2
  simp only [cellsOf_int1, cellsOf_lk, List.drop_zero, List.drop_succ_cons, List.take_succ_cons, List.take_zero] at h0 h1 h2
  obtain ⟨k0, q0, _, g0⟩ := DataW.trod_int Try.underlying3 h0
  obtain ⟨k1, q1, g1⟩ := el_lk _ _ _ h1 rfl
  obtain ⟨k2, q2, _, g2⟩ := DataW.trod_int Try.underlying3 h2
  obtain rfl : a = .int .i64 k0 := by simpa using q0
  obtain ⟨rfl, rfl⟩ : b = .int .i64 k1.page ∧ c = .int .i64 k1.slot := by simpa [lkCells] using q1
  obtain rfl : d = .int .i64 k2 := by simpa using q2
  exact ⟨⟨k0, k1.page, k1.slot, k2⟩, rfl, g0, g1.1, g1.2, g2⟩
theorem open_grant {r : Reach} {b0 : Nat} {v : Value} (hval : Value.okWide Try.prog W r b0 29 v) {d : DataW H} {p : List MemPlace} (h : DataW.Trod enc Try.prog W base (fun _ => true) held 29 v d p) : ∃ x, v = .agg (grCells x).toArray ∧ GoodGr x := by
  obtain ⟨cs, rfl, hsz⟩ := Go.WideShapes.okWide_struct Try.underlying29 hval
  obtain ⟨m, hm⟩ := h
  obtain ⟨x, hx, hg⟩ := el_gr m _ _ hm (by simp only [Value.cells, Array.length_toList]; rw [hsz, cellsOf_gr])
  refine ⟨x, ?_, hg⟩
  rw [← hx]
  simp [Value.cells]
theorem open_table {r : Reach} {b0 : Nat} {v : Value} (hval : Value.okWide Try.prog W r b0 25 v) {d : DataW H} {ps : List MemPlace} (h : DataW.Trod enc Try.prog W base (fun _ => true) held 25 v d ps) :
    ∃ (t : Tb) (h u : Value) (R : List Rng), v = .agg (tbCells h u).toArray ∧ TbRd h u t R ∧ RdIn W R ∧ ∀ z, z ∈ t.held ∨ z ∈ t.wait → GoodGr z := by
  obtain ⟨cs, rfl, hsz⟩ := Go.WideShapes.okWide_struct Try.underlying25 hval
  rw [cellsOf_tb2] at hsz
  obtain ⟨a, b, rfl⟩ := two_arr hsz
  obtain ⟨m, hm⟩ := h
  obtain ⟨xs, n, _, _, _, hn, hf⟩ := DataW.trod_struct Try.underlying25 hm
  obtain ⟨x0, e0⟩ := tb_range hn (k := 0) (by decide)
  obtain ⟨x1, e1⟩ := tb_range hn (k := 1) (by decide)
  have h0 : DataW.trod enc Try.prog W base (fun _ => true) held n 23 ((([a, b] : List Value).drop 0).take (Try.prog.cellsOf 23)) = some x0 := (hf 0 _ rfl).trans e0
  have h1 : DataW.trod enc Try.prog W base (fun _ => true) held n 23 ((([a, b] : List Value).drop 1).take (Try.prog.cellsOf 23)) = some x1 := (hf 1 _ rfl).trans e1
  simp only [cellsOf_slg, List.drop_zero, List.drop_succ_cons, List.take_succ_cons, List.take_zero] at h0 h1
  obtain ⟨lh, Rh, hh, hh2, hh3⟩ := open_sl grCells GoodGr 4 (by decide) Try.underlying23 cellsOf_gr (fun _ => rfl) el_gr h0
  obtain ⟨lw, Rw, hw, hw2, hw3⟩ := open_sl grCells GoodGr 4 (by decide) Try.underlying23 cellsOf_gr (fun _ => rfl) el_gr h1
  exact ⟨⟨lh, lw⟩, a, b, Rh ++ Rw, rfl, ⟨hh.mono (fun r h => List.mem_append_left _ h), hw.mono (fun r h => List.mem_append_right _ h)⟩, hh2.append hw2, fun z hz => hz.elim (hh3 z) (hw3 z)⟩
end
/-- the empty table and the empty grant, as the witness brings them, and their readings -/
def tbNilV : Value := .agg (tbCells (.slice none 0 0) (.slice none 0 0)).toArray
def tbNilD {H : Type} : DataW H := .agg [.nil, .nil]
def grNilV : Value := .agg (grCells grNil).toArray
def grNilD {H : Type} : DataW H := .agg [.lit (.int .i64 0), .agg [.lit (.int .i64 0), .lit (.int .i64 0)], .lit (.int .i64 0)]
end Go.Proofs.Ytcnaalbpbalgdaa
