package check

import "ravelin/api"

// Seals: is a code one that may be?
func Seals(code uint16) bool {
	return isLoad(code) || isStore(code) || isAlu(code) || code == api.Jmp|api.Ja || isBranch(code) || isReturn(code) || isCopy(code)
}

func isLoad(code uint16) bool {
	switch code {
	case api.Ld | api.Abs, api.Ld | api.Len, api.Ldx | api.Len, api.Ld | api.Imm, api.Ldx | api.Imm, api.Ld | api.Mem, api.Ldx | api.Mem:
		return true
	}
	return false
}

func isStore(code uint16) bool { return code == api.St || code == api.Stx }

// asksScratch: does it name a scratch word?
func asksScratch(code uint16) bool {
	return code == api.Ld|api.Mem || code == api.Ldx|api.Mem || isStore(code)
}

// isAlu: Neg has no operand, so it has no form with X.
func isAlu(code uint16) bool {
	switch code &^ api.X {
	case api.Alu | api.Add, api.Alu | api.Sub, api.Alu | api.Mul, api.Alu | api.Div, api.Alu | api.Or, api.Alu | api.And, api.Alu | api.Lsh, api.Alu | api.Rsh, api.Alu | api.Xor:
		return true
	}
	return code == api.Alu|api.Neg
}

// isShift: is it a move by K? One by X is by its low bits, whatever X is.
func isShift(code uint16) bool { return code == api.Alu|api.Lsh || code == api.Alu|api.Rsh }

// isBranch: is it a jump of two ways?
func isBranch(code uint16) bool {
	switch code &^ api.X {
	case api.Jmp | api.Jeq, api.Jmp | api.Jgt, api.Jmp | api.Jge, api.Jmp | api.Jset:
		return true
	}
	return false
}

func isReturn(code uint16) bool { return code == api.Ret || code == api.Ret|api.A }

func isCopy(code uint16) bool { return code == api.Misc|api.Tax || code == api.Misc|api.Txa }
