package mir

import (
	"ravelin/api"
	"ravelin/secdata"
)

// shiftBits are the bits of a number by which a word of 32 bits is moved.
const shiftBits = 31

// machine is a program that is right, as it runs.
type machine struct {
	data      []byte
	registers []uint32
	place     int
	steps     int
	through   bool
	answer    uint32
	err       api.Errno
}

// step does the instruction at the place. One that can't be done is no step, and the place stays at it.
func (m *machine) step(x api.Ir) {
	a, b := m.asked(x)
	if x.Op == api.MirDiv && b == 0 {
		m.through = true
		m.err = api.ErrDivide
		return
	}
	m.steps++
	switch x.Op {
	case api.MirReturn:
		m.through = true
		m.answer = a
	case api.MirJump:
		m.place = x.T
	case api.MirIfEq, api.MirIfGt, api.MirIfGe, api.MirIfSet:
		if holds(x.Op, a, b) {
			m.place = x.T
		} else {
			m.place = x.F
		}
	default:
		m.registers[x.D] = m.result(x, a, b)
		m.place++
	}
}

// asked are the words that an instruction asks for; what it does not name may be no register.
func (m *machine) asked(x api.Ir) (uint32, uint32) {
	switch shapeOf(x.Op).asks {
	case 1:
		return m.registers[x.A], 0
	case 2:
		return m.registers[x.A], m.registers[x.B]
	}
	return 0, 0
}

// holds: does a test of two words hold?
func holds(op api.MirOp, a, b uint32) bool {
	switch op {
	case api.MirIfEq:
		return a == b
	case api.MirIfGt:
		return a > b
	case api.MirIfGe:
		return a >= b
	}
	return a&b != 0
}

// result is the word to which an instruction sets its register.
func (m *machine) result(x api.Ir, a, b uint32) uint32 {
	switch x.Op {
	case api.MirConst:
		return x.K
	case api.MirLoad:
		// There is a word there: Word has no error to tell.
		w, _ := secdata.Word(m.data, int(x.K))
		return w
	case api.MirAdd:
		return a + b
	case api.MirSub:
		return a - b
	case api.MirMul:
		return a * b
	case api.MirDiv:
		return a / b
	case api.MirAnd:
		return a & b
	case api.MirOr:
		return a | b
	case api.MirXor:
		return a ^ b
	case api.MirShl:
		return a << (b & shiftBits)
	case api.MirShr:
		return a >> (b & shiftBits)
	case api.MirNeg:
		return -a
	}
	return a
}
