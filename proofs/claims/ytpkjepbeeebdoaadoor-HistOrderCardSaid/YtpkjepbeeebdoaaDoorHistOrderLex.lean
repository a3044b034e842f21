/-
  The operations of HistOrder's great region, and that its order in the text is one that may be drawn (70 s, once: the walk asks for it four times).
-/
import Derived.Test.YtpkjepbeeebdoaaDoorHistAwake
import Derived.BigQuiet
namespace Go.Proofs.YtpkjepbeeebdoaaDoor
open Go.RowKit

def ord11 : List Oper :=
  { dst := some 40, op := Op.fieldAddr 28 (Operand.tmp 9) 5, type := 0, pos := "law.go:64", after := #[], guard := none } ::
  { dst := some 41, op := Op.load 3 (Operand.tmp 40), type := 3, pos := "law.go:64", after := #[{ on := 0, ground := Ground.data }], guard := none } ::
  { dst := some 42, op := Op.binOp BinOp.lss 3 (Operand.tmp 41) (Operand.const (Value.int IntKind.i64 0)) 3, type := 4, pos := "law.go:64", after := #[{ on := 1, ground := Ground.data }], guard := none } ::
  { dst := some 43, op := Op.move (Operand.tmp 42), type := 4, pos := "law.go:64", after := #[{ on := 2, ground := Ground.data }], guard := none } ::
  { dst := some 44, op := Op.fieldAddr 28 (Operand.tmp 9) 5, type := 0, pos := "law.go:64", after := #[{ on := 3, ground := Ground.guard }], guard := some (3, false) } ::
  { dst := some 45, op := Op.load 3 (Operand.tmp 44), type := 3, pos := "law.go:64", after := #[{ on := 4, ground := Ground.data }, { on := 3, ground := Ground.guard }], guard := some (3, false) } ::
  { dst := some 46, op := Op.move (Operand.tmp 0), type := 22, pos := "law.go:64", after := #[{ on := 3, ground := Ground.guard }], guard := some (3, false) } ::
  { dst := some 47, op := Op.call { callee := Callee.builtin Builtin.len, args := #[Operand.tmp 46], argTypes := #[22] }, type := 3, pos := "law.go:64", after := #[{ on := 6, ground := Ground.data }, { on := 3, ground := Ground.guard }], guard := some (3, false) } ::
  { dst := some 48, op := Op.binOp BinOp.geq 3 (Operand.tmp 45) (Operand.tmp 47) 3, type := 4, pos := "law.go:64", after := #[{ on := 5, ground := Ground.data }, { on := 7, ground := Ground.data }, { on := 3, ground := Ground.guard }], guard := some (3, false) } ::
  { dst := some 49, op := Op.pick (Operand.tmp 43) (Operand.const (Value.bool true)) (Operand.tmp 48), type := 4, pos := "law.go:64", after := #[{ on := 3, ground := Ground.data }, { on := 8, ground := Ground.data }], guard := none } ::
  { dst := some 50, op := Op.move (Operand.tmp 49), type := 4, pos := "law.go:64", after := #[{ on := 9, ground := Ground.data }, { on := 3, ground := Ground.chain }], guard := none } ::
  { dst := some 51, op := Op.fieldAddr 28 (Operand.tmp 9) 6, type := 0, pos := "law.go:64", after := #[{ on := 10, ground := Ground.guard }], guard := some (10, false) } ::
  { dst := some 52, op := Op.load 3 (Operand.tmp 51), type := 3, pos := "law.go:64", after := #[{ on := 11, ground := Ground.data }, { on := 10, ground := Ground.guard }], guard := some (10, false) } ::
  { dst := some 53, op := Op.move (Operand.tmp 0), type := 22, pos := "law.go:64", after := #[{ on := 10, ground := Ground.guard }], guard := some (10, false) } ::
  { dst := some 54, op := Op.call { callee := Callee.builtin Builtin.len, args := #[Operand.tmp 53], argTypes := #[22] }, type := 3, pos := "law.go:64", after := #[{ on := 13, ground := Ground.data }, { on := 10, ground := Ground.guard }], guard := some (10, false) } ::
  { dst := some 55, op := Op.binOp BinOp.geq 3 (Operand.tmp 52) (Operand.tmp 54) 3, type := 4, pos := "law.go:64", after := #[{ on := 12, ground := Ground.data }, { on := 14, ground := Ground.data }, { on := 10, ground := Ground.guard }], guard := some (10, false) } ::
  { dst := some 56, op := Op.pick (Operand.tmp 50) (Operand.const (Value.bool true)) (Operand.tmp 55), type := 4, pos := "law.go:64", after := #[{ on := 10, ground := Ground.data }, { on := 15, ground := Ground.data }], guard := none } ::
  { dst := some 57, op := Op.move (Operand.tmp 56), type := 4, pos := "law.go:64", after := #[{ on := 16, ground := Ground.data }, { on := 10, ground := Ground.chain }], guard := none } ::
  { dst := some 58, op := Op.fieldAddr 28 (Operand.tmp 9) 6, type := 0, pos := "law.go:64", after := #[{ on := 17, ground := Ground.guard }], guard := some (17, false) } ::
  { dst := some 59, op := Op.load 3 (Operand.tmp 58), type := 3, pos := "law.go:64", after := #[{ on := 18, ground := Ground.data }, { on := 17, ground := Ground.guard }], guard := some (17, false) } ::
  { dst := some 60, op := Op.binOp BinOp.geq 3 (Operand.tmp 59) (Operand.const (Value.int IntKind.i64 0)) 3, type := 4, pos := "law.go:64", after := #[{ on := 19, ground := Ground.data }, { on := 17, ground := Ground.guard }], guard := some (17, false) } ::
  { dst := some 61, op := Op.move (Operand.tmp 60), type := 4, pos := "law.go:64", after := #[{ on := 20, ground := Ground.data }, { on := 17, ground := Ground.chain }, { on := 17, ground := Ground.guard }], guard := some (17, false) } ::
  { dst := some 62, op := Op.fieldAddr 28 (Operand.tmp 9) 6, type := 0, pos := "law.go:64", after := #[{ on := 21, ground := Ground.guard }], guard := some (21, true) } ::
  { dst := some 63, op := Op.load 3 (Operand.tmp 62), type := 3, pos := "law.go:64", after := #[{ on := 22, ground := Ground.data }, { on := 21, ground := Ground.guard }], guard := some (21, true) } ::
  { dst := some 64, op := Op.fieldAddr 28 (Operand.tmp 9) 5, type := 0, pos := "law.go:64", after := #[{ on := 21, ground := Ground.guard }], guard := some (21, true) } ::
  { dst := some 65, op := Op.load 3 (Operand.tmp 64), type := 3, pos := "law.go:64", after := #[{ on := 24, ground := Ground.data }, { on := 21, ground := Ground.guard }], guard := some (21, true) } ::
  { dst := some 66, op := Op.binOp BinOp.leq 3 (Operand.tmp 63) (Operand.tmp 65) 3, type := 4, pos := "law.go:64", after := #[{ on := 23, ground := Ground.data }, { on := 25, ground := Ground.data }, { on := 21, ground := Ground.guard }], guard := some (21, true) } ::
  { dst := some 67, op := Op.pick (Operand.tmp 61) (Operand.tmp 66) (Operand.const (Value.bool false)), type := 4, pos := "law.go:64", after := #[{ on := 21, ground := Ground.data }, { on := 26, ground := Ground.data }, { on := 17, ground := Ground.guard }], guard := some (17, false) } ::
  { dst := some 68, op := Op.pick (Operand.tmp 57) (Operand.const (Value.bool true)) (Operand.tmp 67), type := 4, pos := "law.go:64", after := #[{ on := 17, ground := Ground.data }, { on := 27, ground := Ground.data }], guard := none } ::
  { dst := some 69, op := Op.move (Operand.tmp 68), type := 4, pos := "law.go:64", after := #[{ on := 28, ground := Ground.data }, { on := 21, ground := Ground.chain }], guard := none } ::
  { dst := some 70, op := Op.move (Operand.tmp 8), type := 3, pos := "law.go:64", after := #[{ on := 29, ground := Ground.guard }], guard := some (29, false) } ::
  { dst := some 71, op := Op.binOp BinOp.gtr 3 (Operand.tmp 70) (Operand.const (Value.int IntKind.i64 0)) 3, type := 4, pos := "law.go:64", after := #[{ on := 30, ground := Ground.data }, { on := 29, ground := Ground.guard }], guard := some (29, false) } ::
  { dst := some 72, op := Op.move (Operand.tmp 71), type := 4, pos := "law.go:64", after := #[{ on := 31, ground := Ground.data }, { on := 29, ground := Ground.chain }, { on := 29, ground := Ground.guard }], guard := some (29, false) } ::
  { dst := some 73, op := Op.fieldAddr 28 (Operand.tmp 9) 5, type := 0, pos := "law.go:64", after := #[{ on := 32, ground := Ground.guard }], guard := some (32, true) } ::
  { dst := some 74, op := Op.load 3 (Operand.tmp 73), type := 3, pos := "law.go:64", after := #[{ on := 33, ground := Ground.data }, { on := 32, ground := Ground.guard }], guard := some (32, true) } ::
  { dst := some 75, op := Op.move (Operand.tmp 6), type := 24, pos := "law.go:64", after := #[{ on := 32, ground := Ground.guard }], guard := some (32, true) } ::
  { dst := some 76, op := Op.move (Operand.tmp 8), type := 3, pos := "law.go:64", after := #[{ on := 32, ground := Ground.guard }], guard := some (32, true) } ::
  { dst := some 77, op := Op.binOp BinOp.sub 3 (Operand.tmp 76) (Operand.const (Value.int IntKind.i64 1)) 3, type := 3, pos := "law.go:64", after := #[{ on := 36, ground := Ground.data }, { on := 32, ground := Ground.guard }], guard := some (32, true) } ::
  { dst := some 78, op := Op.indexAddr 24 (Operand.tmp 75) (Operand.tmp 77), type := 0, pos := "law.go:64", after := #[{ on := 35, ground := Ground.data }, { on := 37, ground := Ground.data }, { on := 32, ground := Ground.guard }], guard := some (32, true) } ::
  { dst := some 79, op := Op.fieldAddr 28 (Operand.tmp 78) 5, type := 0, pos := "law.go:64", after := #[{ on := 38, ground := Ground.data }, { on := 32, ground := Ground.guard }], guard := some (32, true) } ::
  { dst := some 80, op := Op.load 3 (Operand.tmp 79), type := 3, pos := "law.go:64", after := #[{ on := 39, ground := Ground.data }, { on := 32, ground := Ground.guard }], guard := some (32, true) } ::
  { dst := some 81, op := Op.binOp BinOp.leq 3 (Operand.tmp 74) (Operand.tmp 80) 3, type := 4, pos := "law.go:64", after := #[{ on := 34, ground := Ground.data }, { on := 40, ground := Ground.data }, { on := 32, ground := Ground.guard }], guard := some (32, true) } ::
  { dst := some 82, op := Op.pick (Operand.tmp 72) (Operand.tmp 81) (Operand.const (Value.bool false)), type := 4, pos := "law.go:64", after := #[{ on := 32, ground := Ground.data }, { on := 41, ground := Ground.data }, { on := 29, ground := Ground.guard }], guard := some (29, false) } ::
  { dst := some 83, op := Op.pick (Operand.tmp 69) (Operand.const (Value.bool true)) (Operand.tmp 82), type := 4, pos := "law.go:64", after := #[{ on := 29, ground := Ground.data }, { on := 42, ground := Ground.data }], guard := none } ::
  { dst := some 84, op := Op.move (Operand.tmp 83), type := 4, pos := "law.go:64", after := #[{ on := 43, ground := Ground.data }, { on := 32, ground := Ground.chain }], guard := none } ::
  { dst := some 85, op := Op.move (Operand.tmp 0), type := 22, pos := "law.go:64", after := #[{ on := 44, ground := Ground.guard }], guard := some (44, false) } ::
  { dst := some 86, op := Op.fieldAddr 28 (Operand.tmp 9) 5, type := 0, pos := "law.go:64", after := #[{ on := 44, ground := Ground.guard }], guard := some (44, false) } ::
  { dst := some 87, op := Op.load 3 (Operand.tmp 86), type := 3, pos := "law.go:64", after := #[{ on := 46, ground := Ground.data }, { on := 44, ground := Ground.guard }], guard := some (44, false) } ::
  { dst := some 88, op := Op.indexAddr 22 (Operand.tmp 85) (Operand.tmp 87), type := 0, pos := "law.go:64", after := #[{ on := 45, ground := Ground.data }, { on := 47, ground := Ground.data }, { on := 44, ground := Ground.guard }], guard := some (44, false) } ::
  { dst := some 89, op := Op.fieldAddr 30 (Operand.tmp 88) 2, type := 0, pos := "law.go:64", after := #[{ on := 48, ground := Ground.data }, { on := 44, ground := Ground.guard }], guard := some (44, false) } ::
  { dst := some 90, op := Op.load 3 (Operand.tmp 89), type := 3, pos := "law.go:64", after := #[{ on := 49, ground := Ground.data }, { on := 44, ground := Ground.guard }], guard := some (44, false) } ::
  { dst := some 91, op := Op.move (Operand.tmp 1), type := 3, pos := "law.go:64", after := #[{ on := 44, ground := Ground.guard }], guard := some (44, false) } ::
  { dst := some 92, op := Op.binOp BinOp.neq 3 (Operand.tmp 90) (Operand.tmp 91) 3, type := 4, pos := "law.go:64", after := #[{ on := 50, ground := Ground.data }, { on := 51, ground := Ground.data }, { on := 44, ground := Ground.guard }], guard := some (44, false) } ::
  { dst := some 93, op := Op.pick (Operand.tmp 84) (Operand.const (Value.bool true)) (Operand.tmp 92), type := 4, pos := "law.go:64", after := #[{ on := 44, ground := Ground.data }, { on := 52, ground := Ground.data }], guard := none } ::
  { dst := some 94, op := Op.move (Operand.tmp 93), type := 4, pos := "law.go:64", after := #[{ on := 53, ground := Ground.data }, { on := 44, ground := Ground.chain }], guard := none } ::
  { dst := some 95, op := Op.move (Operand.tmp 0), type := 22, pos := "law.go:64", after := #[{ on := 54, ground := Ground.guard }], guard := some (54, false) } ::
  { dst := some 96, op := Op.fieldAddr 28 (Operand.tmp 9) 5, type := 0, pos := "law.go:64", after := #[{ on := 54, ground := Ground.guard }], guard := some (54, false) } ::
  { dst := some 97, op := Op.load 3 (Operand.tmp 96), type := 3, pos := "law.go:64", after := #[{ on := 56, ground := Ground.data }, { on := 54, ground := Ground.guard }], guard := some (54, false) } ::
  { dst := some 98, op := Op.indexAddr 22 (Operand.tmp 95) (Operand.tmp 97), type := 0, pos := "law.go:64", after := #[{ on := 55, ground := Ground.data }, { on := 57, ground := Ground.data }, { on := 54, ground := Ground.guard }], guard := some (54, false) } ::
  { dst := some 99, op := Op.fieldAddr 30 (Operand.tmp 98) 0, type := 0, pos := "law.go:64", after := #[{ on := 58, ground := Ground.data }, { on := 54, ground := Ground.guard }], guard := some (54, false) } ::
  { dst := some 100, op := Op.load 3 (Operand.tmp 99), type := 3, pos := "law.go:64", after := #[{ on := 59, ground := Ground.data }, { on := 54, ground := Ground.guard }], guard := some (54, false) } ::
  { dst := some 101, op := Op.fieldAddr 28 (Operand.tmp 9) 0, type := 0, pos := "law.go:64", after := #[{ on := 54, ground := Ground.guard }], guard := some (54, false) } ::
  { dst := some 102, op := Op.load 3 (Operand.tmp 101), type := 3, pos := "law.go:64", after := #[{ on := 61, ground := Ground.data }, { on := 54, ground := Ground.guard }], guard := some (54, false) } ::
  { dst := some 103, op := Op.binOp BinOp.neq 3 (Operand.tmp 100) (Operand.tmp 102) 3, type := 4, pos := "law.go:64", after := #[{ on := 60, ground := Ground.data }, { on := 62, ground := Ground.data }, { on := 54, ground := Ground.guard }], guard := some (54, false) } ::
  { dst := some 104, op := Op.pick (Operand.tmp 94) (Operand.const (Value.bool true)) (Operand.tmp 103), type := 4, pos := "law.go:64", after := #[{ on := 54, ground := Ground.data }, { on := 63, ground := Ground.data }], guard := none } ::
  { dst := some 105, op := Op.move (Operand.tmp 104), type := 4, pos := "law.go:64", after := #[{ on := 64, ground := Ground.data }, { on := 54, ground := Ground.chain }], guard := none } ::
  { dst := some 106, op := Op.fieldAddr 28 (Operand.tmp 9) 1, type := 0, pos := "law.go:64", after := #[{ on := 65, ground := Ground.guard }], guard := some (65, false) } ::
  { dst := some 107, op := Op.load 3 (Operand.tmp 106), type := 3, pos := "law.go:64", after := #[{ on := 66, ground := Ground.data }, { on := 65, ground := Ground.guard }], guard := some (65, false) } ::
  { dst := some 108, op := Op.binOp BinOp.lss 3 (Operand.tmp 107) (Operand.const (Value.int IntKind.i64 0)) 3, type := 4, pos := "law.go:64", after := #[{ on := 67, ground := Ground.data }, { on := 65, ground := Ground.guard }], guard := some (65, false) } ::
  { dst := some 109, op := Op.pick (Operand.tmp 105) (Operand.const (Value.bool true)) (Operand.tmp 108), type := 4, pos := "law.go:64", after := #[{ on := 65, ground := Ground.data }, { on := 68, ground := Ground.data }], guard := none } ::
  { dst := some 110, op := Op.move (Operand.tmp 109), type := 4, pos := "law.go:64", after := #[{ on := 69, ground := Ground.data }, { on := 65, ground := Ground.chain }], guard := none } ::
  { dst := some 111, op := Op.fieldAddr 28 (Operand.tmp 9) 1, type := 0, pos := "law.go:64", after := #[{ on := 70, ground := Ground.guard }], guard := some (70, false) } ::
  { dst := some 112, op := Op.load 3 (Operand.tmp 111), type := 3, pos := "law.go:64", after := #[{ on := 71, ground := Ground.data }, { on := 70, ground := Ground.guard }], guard := some (70, false) } ::
  { dst := some 113, op := Op.binOp BinOp.gtr 3 (Operand.tmp 112) (Operand.const (Value.int IntKind.i64 7)) 3, type := 4, pos := "law.go:64", after := #[{ on := 72, ground := Ground.data }, { on := 70, ground := Ground.guard }], guard := some (70, false) } ::
  { dst := some 114, op := Op.pick (Operand.tmp 110) (Operand.const (Value.bool true)) (Operand.tmp 113), type := 4, pos := "law.go:64", after := #[{ on := 70, ground := Ground.data }, { on := 73, ground := Ground.data }], guard := none } ::
  { dst := some 115, op := Op.move (Operand.tmp 114), type := 4, pos := "law.go:64", after := #[{ on := 74, ground := Ground.data }, { on := 70, ground := Ground.chain }], guard := none } ::
  { dst := some 116, op := Op.fieldAddr 28 (Operand.tmp 9) 6, type := 0, pos := "law.go:64", after := #[{ on := 75, ground := Ground.guard }], guard := some (75, false) } ::
  { dst := some 117, op := Op.load 3 (Operand.tmp 116), type := 3, pos := "law.go:64", after := #[{ on := 76, ground := Ground.data }, { on := 75, ground := Ground.guard }], guard := some (75, false) } ::
  { dst := some 118, op := Op.binOp BinOp.lss 3 (Operand.tmp 117) (Operand.const (Value.int IntKind.i64 0)) 3, type := 4, pos := "law.go:64", after := #[{ on := 77, ground := Ground.data }, { on := 75, ground := Ground.guard }], guard := some (75, false) } ::
  { dst := some 119, op := Op.move (Operand.tmp 118), type := 4, pos := "law.go:64", after := #[{ on := 78, ground := Ground.data }, { on := 75, ground := Ground.chain }, { on := 75, ground := Ground.guard }], guard := some (75, false) } ::
  { dst := some 120, op := Op.fieldAddr 28 (Operand.tmp 9) 4, type := 0, pos := "law.go:64", after := #[{ on := 79, ground := Ground.guard }], guard := some (79, true) } ::
  { dst := some 121, op := Op.load 4 (Operand.tmp 120), type := 4, pos := "law.go:64", after := #[{ on := 80, ground := Ground.data }, { on := 79, ground := Ground.guard }], guard := some (79, true) } ::
  { dst := some 122, op := Op.move (Operand.tmp 121), type := 4, pos := "law.go:64", after := #[{ on := 81, ground := Ground.data }, { on := 79, ground := Ground.chain }, { on := 79, ground := Ground.guard }], guard := some (79, true) } ::
  { dst := some 123, op := Op.fieldAddr 28 (Operand.tmp 9) 3, type := 0, pos := "law.go:64", after := #[{ on := 82, ground := Ground.guard }], guard := some (82, false) } ::
  { dst := some 124, op := Op.load 3 (Operand.tmp 123), type := 3, pos := "law.go:64", after := #[{ on := 83, ground := Ground.data }, { on := 82, ground := Ground.guard }], guard := some (82, false) } ::
  { dst := some 125, op := Op.binOp BinOp.neq 3 (Operand.tmp 124) (Operand.const (Value.int IntKind.i64 0)) 3, type := 4, pos := "law.go:64", after := #[{ on := 84, ground := Ground.data }, { on := 82, ground := Ground.guard }], guard := some (82, false) } ::
  { dst := some 126, op := Op.pick (Operand.tmp 122) (Operand.const (Value.bool true)) (Operand.tmp 125), type := 4, pos := "law.go:64", after := #[{ on := 82, ground := Ground.data }, { on := 85, ground := Ground.data }, { on := 79, ground := Ground.guard }], guard := some (79, true) } ::
  { dst := some 127, op := Op.pick (Operand.tmp 119) (Operand.tmp 126) (Operand.const (Value.bool false)), type := 4, pos := "law.go:64", after := #[{ on := 79, ground := Ground.data }, { on := 86, ground := Ground.data }, { on := 75, ground := Ground.guard }], guard := some (75, false) } ::
  { dst := some 128, op := Op.pick (Operand.tmp 115) (Operand.const (Value.bool true)) (Operand.tmp 127), type := 4, pos := "law.go:64", after := #[{ on := 75, ground := Ground.data }, { on := 87, ground := Ground.data }], guard := none } :: []
theorem ord11_lex : Region.lexB .any ord11.toArray = true := by decide +kernel
end Go.Proofs.YtpkjepbeeebdoaaDoor
