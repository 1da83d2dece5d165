package decision

import (
	"slices"

	"ravelin/api"
)

// told is the node that leads to t, if a simple expression holds, else to f.
func (m *maker) told(e api.Expr, t, f int) int {
	if t == f {
		return t
	}
	switch e.Op {
	case api.ExprTrue:
		return t
	case api.ExprFalse:
		return f
	case api.ExprNot:
		return m.told(e.Args[0], f, t)
	case api.ExprAnd:
		for _, arg := range slices.Backward(e.Args) {
			t = m.told(arg, t, f)
		}
		return t
	case api.ExprOr:
		for _, arg := range slices.Backward(e.Args) {
			f = m.told(arg, t, f)
		}
		return f
	}
	return m.whole(e, t, f)
}

// whole is the node of a test, by the halves of its field.
func (m *maker) whole(e api.Expr, t, f int) int {
	switch e.Rel {
	case api.RelEq:
		return m.same(e, t, f)
	case api.RelNe:
		return m.same(e, f, t)
	case api.RelGe:
		return m.above(e, api.NodeGe, t, f)
	case api.RelLt:
		return m.above(e, api.NodeGe, f, t)
	case api.RelGt:
		return m.above(e, api.NodeGt, t, f)
	}
	return m.above(e, api.NodeGt, f, t)
}

// same: is each half that of the value?
func (m *maker) same(e api.Expr, t, f int) int {
	low := m.ask(lowHalf(e, api.NodeEq), t, f)
	return m.ask(highHalf(e, api.NodeEq), low, f)
}

// above: is the high half above that of the value; or is it that one, and the low half to the value's as low says?
func (m *maker) above(e api.Expr, low api.NodeOp, t, f int) int {
	f = m.ask(highHalf(e, api.NodeEq), m.ask(lowHalf(e, low), t, f), f)
	return m.ask(highHalf(e, api.NodeGt), t, f)
}

func lowHalf(e api.Expr, op api.NodeOp) question {
	return question{fieldAt(e.Field), uint32(e.Mask), op, uint32(e.Value)}
}

func highHalf(e api.Expr, op api.NodeOp) question {
	return question{fieldAt(e.Field) + wordLen, uint32(e.Mask >> wordBits), op, uint32(e.Value >> wordBits)}
}
