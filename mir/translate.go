package mir

import "ravelin/api"

// classBits are those of a Code that tell a class of operations; the others tell these apart. Codes that are no operations don't come here.
const classBits uint16 = 7

// scratch is where a scratch word lives.
func scratch(k uint32) int { return regM + int(k) }

// translate lays what one of a program's instructions becomes.
func (b *builder) translate(in api.Insn, at int) {
	switch in.Code & classBits {
	case api.Ld:
		b.load(in, regA)
	case api.Ldx:
		b.load(in, regX)
	case api.St:
		b.move(scratch(in.K), regA)
	case api.Stx:
		b.move(scratch(in.K), regX)
	case api.Alu:
		b.compute(in)
	case api.Jmp:
		b.jump(in, at)
	case api.Ret:
		b.end(in)
	case api.Misc:
		if in.Code == api.Misc|api.Tax {
			b.move(regX, regA)
		} else {
			b.move(regA, regX)
		}
	}
}

// load sets A or X.
func (b *builder) load(in api.Insn, d int) {
	switch in.Code &^ classBits {
	case api.Abs:
		b.lay(api.Ir{Op: api.MirLoad, D: d, K: in.K})
	case api.Len:
		b.constant(d, api.DataLen)
	case api.Mem:
		b.move(d, scratch(in.K))
	default:
		b.constant(d, in.K)
	}
}

// operand is where that lives which an operation takes beside A.
func (b *builder) operand(in api.Insn) int {
	if in.Code&api.X != 0 {
		return regX
	}
	b.constant(regK, in.K)
	return regK
}

// compute does an operation of numbers.
func (b *builder) compute(in api.Insn) {
	switch in.Code {
	case api.Alu | api.Neg:
		b.lay(api.Ir{Op: api.MirNeg, D: regA, A: regA})
		return
	case api.Alu | api.Div | api.X:
		b.endAtZero()
	}
	by := b.operand(in)
	b.lay(api.Ir{Op: numberOp(in.Code), D: regA, A: regA, B: by})
}

// endAtZero ends the program with 0, if X is 0: what is laid behind it divides by X.
func (b *builder) endAtZero() {
	b.constant(regK, 0)
	at := b.next()
	b.lay(api.Ir{Op: api.MirIfEq, A: regX, B: regK, T: at + 1, F: at + 2})
	b.lay(api.Ir{Op: api.MirReturn, A: regK})
}

// jump leads on: the targets are left open.
func (b *builder) jump(in api.Insn, at int) {
	if in.Code == api.Jmp|api.Ja {
		b.lead(api.Ir{Op: api.MirJump, T: at + 1 + int(in.K)})
		return
	}
	with := b.operand(in)
	b.lead(api.Ir{Op: testOp(in.Code), A: regA, B: with, T: at + 1 + int(in.Jt), F: at + 1 + int(in.Jf)})
}

// end returns A, or a constant.
func (b *builder) end(in api.Insn) {
	if in.Code == api.Ret|api.A {
		b.lay(api.Ir{Op: api.MirReturn, A: regA})
		return
	}
	b.constant(regK, in.K)
	b.lay(api.Ir{Op: api.MirReturn, A: regK})
}

// numberOp is the operation of two registers that an operation of numbers becomes.
func numberOp(code uint16) api.MirOp {
	switch code &^ api.X {
	case api.Alu | api.Add:
		return api.MirAdd
	case api.Alu | api.Sub:
		return api.MirSub
	case api.Alu | api.Mul:
		return api.MirMul
	case api.Alu | api.Div:
		return api.MirDiv
	case api.Alu | api.Or:
		return api.MirOr
	case api.Alu | api.And:
		return api.MirAnd
	case api.Alu | api.Lsh:
		return api.MirShl
	case api.Alu | api.Rsh:
		return api.MirShr
	}
	return api.MirXor
}

// testOp is the operation that a jump of two ways becomes.
func testOp(code uint16) api.MirOp {
	switch code &^ api.X {
	case api.Jmp | api.Jeq:
		return api.MirIfEq
	case api.Jmp | api.Jgt:
		return api.MirIfGt
	case api.Jmp | api.Jge:
		return api.MirIfGe
	}
	return api.MirIfSet
}
