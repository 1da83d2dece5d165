package mir

import "ravelin/api"

// none is the number of no register.
const none = -1

// wordLen is how many bytes a word of the data has.
const wordLen = 4

// shape is which of an instruction's fields name a register or a target.
type shape struct {
	sets bool // D
	asks int  // how many of A and B, A first
	aims int  // how many of T and F, T first
}

// shapeOf is the shape of an operation; one that is none names nothing.
func shapeOf(op api.MirOp) shape {
	switch op {
	case api.MirConst, api.MirLoad:
		return shape{sets: true}
	case api.MirMove, api.MirNeg:
		return shape{sets: true, asks: 1}
	case api.MirAdd, api.MirSub, api.MirMul, api.MirDiv, api.MirAnd, api.MirOr, api.MirXor, api.MirShl, api.MirShr:
		return shape{sets: true, asks: 2}
	case api.MirJump:
		return shape{aims: 1}
	case api.MirIfEq, api.MirIfGt, api.MirIfGe, api.MirIfSet:
		return shape{asks: 2, aims: 2}
	case api.MirReturn:
		return shape{asks: 1}
	}
	return shape{}
}

// asked are the registers that an instruction asks for.
func (s shape) asked(x api.Ir) []int { return []int{x.A, x.B}[:s.asks] }

// named are all registers that an instruction names.
func (s shape) named(x api.Ir) []int {
	if s.sets {
		return append(s.asked(x), x.D)
	}
	return s.asked(x)
}

// targets are those that an instruction names.
func (s shape) targets(x api.Ir) []int { return []int{x.T, x.F}[:s.aims] }

// ways are the places to which an instruction leads, such as there are or not.
func ways(x api.Ir, at int) []int {
	s := shapeOf(x.Op)
	switch {
	case s.aims > 0:
		return s.targets(x)
	case s.sets:
		return []int{at + 1}
	}
	return nil
}

// fault is why an instruction may not be.
func fault(p api.Mir, at int) api.Errno {
	x := p.L[at]
	s := shapeOf(x.Op)
	switch {
	case s == shape{}:
		return api.ErrMirOp
	case !within(s.named(x), 0, p.Regs):
		return api.ErrMirReg
	case x.Op == api.MirLoad && (x.K >= api.DataLen || x.K%wordLen != 0):
		return api.ErrMirLoad
	case !within(s.targets(x), at+1, len(p.L)):
		return api.ErrMirTarget
	}
	return api.OK
}

// within: is each one of them at least the one number, and below the other?
func within(l []int, from, to int) bool {
	for _, n := range l {
		if n < from || n >= to {
			return false
		}
	}
	return true
}
