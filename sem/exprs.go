package sem

import (
	"slices"

	"ravelin/api"
)

// exprFault is what is wrong with the first expression in one that stands within so many others.
func exprFault(e api.Expr, within int) api.Errno {
	if within > api.MaxNest || !shaped(e) {
		return api.ErrSemExpr
	}
	if e.Op == api.ExprTest && (e.Mask == 0 || e.Value&^e.Mask != 0) {
		return api.ErrSemMask
	}
	for _, arg := range e.Args {
		if err := exprFault(arg, within+1); err != api.OK {
			return err
		}
	}
	return api.OK
}

// shaped: is all right with an expression itself, but for its mask and its value?
func shaped(e api.Expr) bool {
	switch e.Op {
	case api.ExprTrue, api.ExprFalse:
		return len(e.Args) == 0
	case api.ExprNot:
		return len(e.Args) == 1
	case api.ExprAnd, api.ExprOr:
		return len(e.Args) >= 2
	case api.ExprTest:
		return len(e.Args) == 0 && isField(e.Field) && isRel(e.Rel)
	}
	return false
}

func isField(field int) bool { return field >= 0 && field <= api.FieldIP }

func isRel(rel api.Rel) bool { return rel >= api.RelEq && rel <= api.RelGe }

// look is at data; expressions are held against them that may be.
type look struct {
	data      api.Data
	relations map[api.Rel]relation
}

// lookAt makes the relations once, for all tests there are.
func lookAt(d api.Data) look { return look{d, relations()} }

func (l look) holds(e api.Expr) bool {
	switch e.Op {
	case api.ExprTrue:
		return true
	case api.ExprNot:
		return l.fails(e.Args[0])
	case api.ExprAnd:
		return !slices.ContainsFunc(e.Args, l.fails)
	case api.ExprOr:
		return slices.ContainsFunc(e.Args, l.holds)
	case api.ExprTest:
		return l.relations[e.Rel](number(l.field(e.Field)&e.Mask), number(e.Value))
	}
	return false
}

func (l look) fails(e api.Expr) bool { return !l.holds(e) }

func (l look) field(field int) uint64 {
	if field == api.FieldIP {
		return l.data.IP
	}
	return l.data.Args[field]
}
