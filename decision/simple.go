package decision

import "ravelin/api"

// simple is an expression that may be, without its constant parts. All its lists are new.
func simple(e api.Expr) api.Expr {
	switch e.Op {
	case api.ExprNot:
		return simpleNot(simple(e.Args[0]))
	case api.ExprAnd:
		return simpleJoin(e, api.ExprTrue, api.ExprFalse)
	case api.ExprOr:
		return simpleJoin(e, api.ExprFalse, api.ExprTrue)
	case api.ExprTest:
		return simpleTest(e)
	}
	return api.Expr{Op: e.Op}
}

func simpleNot(arg api.Expr) api.Expr {
	switch arg.Op {
	case api.ExprTrue:
		return api.Expr{Op: api.ExprFalse}
	case api.ExprFalse:
		return api.Expr{Op: api.ExprTrue}
	}
	return api.Expr{Op: api.ExprNot, Args: []api.Expr{arg}}
}

// simpleJoin is what is left of several arguments: those that are idle change nothing, one that rules says all.
func simpleJoin(e api.Expr, idle, rules api.ExprOp) api.Expr {
	var left []api.Expr
	for _, arg := range e.Args {
		switch s := simple(arg); s.Op {
		case rules:
			return s
		case idle:
		default:
			left = append(left, s)
		}
	}
	switch len(left) {
	case 0:
		return api.Expr{Op: idle}
	case 1:
		return left[0]
	}
	return api.Expr{Op: e.Op, Args: left}
}

func simpleTest(e api.Expr) api.Expr {
	least, most := e.Value == 0, e.Value == e.Mask
	switch {
	case e.Rel == api.RelGe && least, e.Rel == api.RelLe && most:
		return api.Expr{Op: api.ExprTrue}
	case e.Rel == api.RelLt && least, e.Rel == api.RelGt && most:
		return api.Expr{Op: api.ExprFalse}
	}
	return api.Expr{Op: api.ExprTest, Field: e.Field, Mask: e.Mask, Rel: e.Rel, Value: e.Value}
}
