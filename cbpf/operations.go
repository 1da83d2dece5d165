package cbpf

import (
	"ravelin/api"
	"ravelin/secdata"
)

// shiftBits are the bits of a number by which a word of 32 bits is moved.
const shiftBits = 31

// operation does an instruction that can be done. The place is at it, and is moved on by one behind it: a jump adds what it goes further.
type operation func(m *Machine, in api.Insn)

// operations are what there is to do, by the Codes.
func operations() map[uint16]operation {
	return map[uint16]operation{
		api.Ld | api.Abs:  (*Machine).load,
		api.Ld | api.Len:  (*Machine).loadLen,
		api.Ldx | api.Len: (*Machine).loadLenX,
		api.Ld | api.Imm:  (*Machine).loadConst,
		api.Ldx | api.Imm: (*Machine).loadConstX,
		api.Ld | api.Mem:  (*Machine).loadScratch,
		api.Ldx | api.Mem: (*Machine).loadScratchX,
		api.St:            (*Machine).store,
		api.Stx:           (*Machine).storeX,

		api.Alu | api.Add: (*Machine).add, api.Alu | api.Add | api.X: (*Machine).add,
		api.Alu | api.Sub: (*Machine).sub, api.Alu | api.Sub | api.X: (*Machine).sub,
		api.Alu | api.Mul: (*Machine).mul, api.Alu | api.Mul | api.X: (*Machine).mul,
		api.Alu | api.Div: (*Machine).div, api.Alu | api.Div | api.X: (*Machine).div,
		api.Alu | api.Or: (*Machine).or, api.Alu | api.Or | api.X: (*Machine).or,
		api.Alu | api.And: (*Machine).and, api.Alu | api.And | api.X: (*Machine).and,
		api.Alu | api.Lsh: (*Machine).left, api.Alu | api.Lsh | api.X: (*Machine).left,
		api.Alu | api.Rsh: (*Machine).right, api.Alu | api.Rsh | api.X: (*Machine).right,
		api.Alu | api.Xor: (*Machine).xor, api.Alu | api.Xor | api.X: (*Machine).xor,
		api.Alu | api.Neg: (*Machine).negate,

		api.Jmp | api.Ja:  (*Machine).jump,
		api.Jmp | api.Jeq: (*Machine).ifEqual, api.Jmp | api.Jeq | api.X: (*Machine).ifEqual,
		api.Jmp | api.Jgt: (*Machine).ifAbove, api.Jmp | api.Jgt | api.X: (*Machine).ifAbove,
		api.Jmp | api.Jge: (*Machine).ifNotBelow, api.Jmp | api.Jge | api.X: (*Machine).ifNotBelow,
		api.Jmp | api.Jset: (*Machine).ifCommon, api.Jmp | api.Jset | api.X: (*Machine).ifCommon,

		api.Ret:            (*Machine).returnConst,
		api.Ret | api.A:    (*Machine).returnA,
		api.Misc | api.Tax: (*Machine).copyToX,
		api.Misc | api.Txa: (*Machine).copyToA,
	}
}

// operand is what an operation takes beside A: only Codes of Alu and Jmp have the bit of X.
func (m *Machine) operand(in api.Insn) uint32 {
	if in.Code&api.X != 0 {
		return m.x
	}
	return in.K
}

// load has no error to tell: the place is one of a word.
func (m *Machine) load(in api.Insn) { m.a, _ = secdata.Word(m.data, int(in.K)) }

func (m *Machine) loadLen(api.Insn)  { m.a = api.DataLen }
func (m *Machine) loadLenX(api.Insn) { m.x = api.DataLen }

func (m *Machine) loadConst(in api.Insn)  { m.a = in.K }
func (m *Machine) loadConstX(in api.Insn) { m.x = in.K }

func (m *Machine) loadScratch(in api.Insn)  { m.a = m.scratch[in.K] }
func (m *Machine) loadScratchX(in api.Insn) { m.x = m.scratch[in.K] }

func (m *Machine) store(in api.Insn)  { m.scratch[in.K] = m.a }
func (m *Machine) storeX(in api.Insn) { m.scratch[in.K] = m.x }

func (m *Machine) add(in api.Insn) { m.a += m.operand(in) }
func (m *Machine) sub(in api.Insn) { m.a -= m.operand(in) }
func (m *Machine) mul(in api.Insn) { m.a *= m.operand(in) }

// div ends the program where X is 0; a K of 0 doesn't come here.
func (m *Machine) div(in api.Insn) {
	v := m.operand(in)
	if v == 0 {
		m.end(0)
		return
	}
	m.a /= v
}

func (m *Machine) or(in api.Insn)  { m.a |= m.operand(in) }
func (m *Machine) and(in api.Insn) { m.a &= m.operand(in) }
func (m *Machine) xor(in api.Insn) { m.a ^= m.operand(in) }

func (m *Machine) left(in api.Insn)  { m.a <<= m.operand(in) & shiftBits }
func (m *Machine) right(in api.Insn) { m.a >>= m.operand(in) & shiftBits }

func (m *Machine) negate(api.Insn) { m.a = -m.a }

func (m *Machine) jump(in api.Insn) { m.place += int(in.K) }

func (m *Machine) ifEqual(in api.Insn)    { m.branch(in, m.a == m.operand(in)) }
func (m *Machine) ifAbove(in api.Insn)    { m.branch(in, m.a > m.operand(in)) }
func (m *Machine) ifNotBelow(in api.Insn) { m.branch(in, m.a >= m.operand(in)) }
func (m *Machine) ifCommon(in api.Insn)   { m.branch(in, m.a&m.operand(in) != 0) }

// branch goes further by one of a jump's two ways.
func (m *Machine) branch(in api.Insn, is bool) {
	if is {
		m.place += int(in.Jt)
	} else {
		m.place += int(in.Jf)
	}
}

func (m *Machine) returnConst(in api.Insn) { m.end(in.K) }
func (m *Machine) returnA(api.Insn)        { m.end(m.a) }

// end is where a program ends well.
func (m *Machine) end(answer uint32) {
	m.through = true
	m.answer = answer
}

func (m *Machine) copyToX(api.Insn) { m.x = m.a }
func (m *Machine) copyToA(api.Insn) { m.a = m.x }
